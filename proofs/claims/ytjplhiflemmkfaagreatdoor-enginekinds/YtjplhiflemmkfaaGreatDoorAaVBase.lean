/- Acceptors in memory: what is kept, entries, votes, rows of votes. accept: isNone, refuse: contracts. accept.twin: a contract. -/
import Derived.Test.YtjplhiflemmkfaaGreatDoorAaNBase
namespace Go.Proofs.YtjplhiflemmkfaaGreatDoor.Aa
open Go.RowKit Go.Maps

theorem heap_lt {w : World} {k : Nat} {o : Obj} (h : w.heap[k]? = some o) : k < w.heap.size := by
  by_cases hh : k < w.heap.size
  · exact hh
  · rw [Array.getElem?_eq_none (by omega)] at h; cases h
theorem cell_of_block {w : World} {p i : Nat} {cs : Array Value} {t : TypeId} {fr : Nat × Nat} (h : w.heap[p]? = some (.cells cs t fr)) : w.cell? ⟨p, i, none⟩ = cs[i]? := by
  simp [World.cell?, h]
theorem free_of_block {w : World} {p i : Nat} {cs : Array Value} {t : TypeId} (h : w.heap[p]? = some (.cells cs t (0, 0))) : w.frozen? ⟨p, i, none⟩ = false := by
  simp [World.frozen?, h]
theorem setCell_block {w : World} {p i : Nat} {u : Value} {cs : Array Value} {t : TypeId} {fr : Nat × Nat} (h : w.heap[p]? = some (.cells cs t fr)) : (w.setCell ⟨p, i, none⟩ u).heap[p]? = some (.cells (cs.setIfInBounds i u) t fr) := by
  simp [World.setCell, Array.getElem?_modify, h]
theorem Below.stay {w w' : World} (h : Below w.heap.size w w') {k : Nat} {o : Obj} (hk : w.heap[k]? = some o) : w'.heap[k]? = some o := (h.block k (heap_lt hk)).trans hk
theorem below_far {w w1 w2 : World} (h : Below w.heap.size w w1) (k : Below w1.heap.size w1 w2) : Below w.heap.size w w2 := h.trans (k.mono h.size)
theorem box_at (w : World) (o : Obj) : (w.alloc o).heap[w.heap.size]? = some o := heap_alloc_new _ _

/-! ### all but some blocks are kept -/
def Kp (D : Nat → Prop) (w w' : World) : Prop := Kept 0 D w w'
theorem Kp.refl (D : Nat → Prop) (w : World) : Kp D w w := Kept.refl _ _ _
theorem Kp.of_below {D : Nat → Prop} {w w' : World} (h : Below w.heap.size w w') : Kp D w w' := Kept.of_below h (Nat.zero_le _)
theorem Kp.size {D : Nat → Prop} {w w' : World} (h : Kp D w w') : w.heap.size ≤ w'.heap.size := Kept.size h
theorem Kp.trans {D E : Nat → Prop} {a b c : World} (h : Kp D a b) (k : Kp E b c) (he : ∀ j, j < a.heap.size → E j → D j) : Kp D a c := Kept.trans h k he
theorem Kp.mono {D E : Nat → Prop} {a b : World} (h : Kp D a b) (he : ∀ j, j < a.heap.size → D j → E j) : Kp E a b := Kept.mono h (Nat.le_refl _) he
theorem Kp.far {D : Nat → Prop} {a b c : World} (h : Kp D a b) (k : Below b.heap.size b c) : Kp D a c := h.trans (E := fun _ => False) (Kp.of_below k) (fun _ _ x => x.elim)
theorem Kp.block {D : Nat → Prop} {w w' : World} (h : Kp D w w') {k : Nat} {o : Obj} (hk : w.heap[k]? = some o) (hd : ¬ D k) : w'.heap[k]? = some o := (h.2 k (heap_lt hk) hd).trans hk
theorem Kp.cell {D : Nat → Prop} {w w' : World} (h : Kp D w w') {a : Addr} {u : Value} (ha : w.cell? a = some u) (hd : ¬ D a.block) : w'.cell? a = some u := by
  rw [World.cell?_of_block (w := w) (h.2 a.block (blk_lt ha) hd)]; exact ha
theorem Kp.below {D : Nat → Prop} {w w' : World} (h : Kp D w w') {base : Nat} (hd : ∀ k, D k → base ≤ k) (hb : base ≤ w.heap.size) : Below base w w' :=
  ⟨h.1.os, h.1.tape, h.1.output, h.1.size, fun k hk => h.2 k (by omega) (fun x => by have := hd k x; omega)⟩
theorem Kp.setCell {D : Nat → Prop} {a w : World} (h : Kp D a w) {p : Addr} (hf : D p.block) (u : Value) : Kp D a (w.setCell p u) := Kept.setCell h (Nat.zero_le _) hf u
theorem Kp.alloc {D : Nat → Prop} {a w : World} (h : Kp D a w) (o : Obj) : Kp D a (w.alloc o) := Kept.alloc h (Nat.zero_le _) o
theorem Kp.drew {D : Nat → Prop} {a w : World} (h : Kp D a w) : Kp D a w.drew := Kept.drew h
theorem Kp.grown {D : Nat → Prop} {a w w' : World} {row : Option Nat} (h : Kp D a w) (hg : w.grownBy w' row) (hr : ∀ k, k < a.heap.size → row = some k → D k) : Kp D a w' :=
  h.trans (E := fun k => row = some k) ⟨⟨hg.os, hg.tape, hg.output, hg.size, fun k hk => by omega⟩, fun k hk hn => hg.block k hk (fun e => hn e.symm)⟩ hr
/-- new blocks are nobody's. -/
def News (D : Nat → Prop) (w w' : World) (k : Nat) : Prop := D k ∨ (w.heap.size ≤ k ∧ k < w'.heap.size)

/-! ### numbers that lie in some blocks -/
def InF (F : Nat → Prop) (w : World) (ao : Option Addr) (ys : List Int) : Prop := ∀ i, i < ys.length → ∃ a, ao = some a ∧ F a.block ∧ w.cell? (a.add i) = some (.int .i64 (ys.getD i 0))
theorem InF.ints {F : Nat → Prop} {w : World} {ao : Option Addr} {ys : List Int} (h : InF F w ao ys) : IntsR w ao ys := fun i hi => by
  obtain ⟨a, h1, _, h3⟩ := h i hi
  exact ⟨a, h1, h3⟩
theorem InF.kp {F D : Nat → Prop} {w w' : World} {ao : Option Addr} {ys : List Int} (h : InF F w ao ys) (hk : Kp D w w') (hd : ∀ k, F k → ¬ D k) : InF F w' ao ys := fun i hi => by
  obtain ⟨a, h1, h2, h3⟩ := h i hi
  exact ⟨a, h1, h2, hk.cell h3 (by rw [add_block]; exact hd _ h2)⟩
theorem InF.below {F : Nat → Prop} {w w' : World} {ao : Option Addr} {ys : List Int} (h : InF F w ao ys) (hb : Below w.heap.size w w') : InF F w' ao ys := h.kp (D := fun _ => False) (Kp.of_below hb) (fun _ _ x => x)
theorem InF.mono {F G : Nat → Prop} {w : World} {ao : Option Addr} {ys : List Int} (h : InF F w ao ys) (hg : ∀ k, F k → G k) : InF G w ao ys := fun i hi => by
  obtain ⟨a, h1, h2, h3⟩ := h i hi
  exact ⟨a, h1, hg _ h2, h3⟩
theorem IntsR.inF {w : World} {ao : Option Addr} {ys : List Int} (h : IntsR w ao ys) : InF (fun k => k < w.heap.size) w ao ys := fun i hi => by
  obtain ⟨a, h1, h2⟩ := h i hi
  exact ⟨a, h1, by have := blk_lt h2; rwa [add_block] at this, h2⟩
theorem InF.nil (F : Nat → Prop) (w : World) (ao : Option Addr) : InF F w ao [] := fun i hi => by simp at hi
theorem Ir.inF {base : Nat} {w : World} {ao : Option Addr} {n c : Nat} {ys : List Int} (h : Ir base w (.slice ao n c) ys) : InF (fun k => (Value.slice ao n c).ownBlock = some k) w ao ys := fun i hi => by
  obtain ⟨ao', cap, e, hf, _⟩ := h.slice
  cases e
  obtain ⟨a, rfl, h2⟩ := hf.1 i hi
  exact ⟨a, rfl, rfl, h2⟩
theorem Ir.kp {base : Nat} {D : Nat → Prop} {w w' : World} {v : Value} {ys : List Int} (h : Ir base w v ys) (hk : Kp D w w') (hd : ∀ k, v.ownBlock = some k → ¬ D k) : Ir base w' v ys := Kept.own hk h hd
theorem Ir.zero {base : Nat} {w : World} {v : Value} {ys : List Int} (h : Ir base w v ys) : Ir 0 w v ys := by
  refine ⟨h.1, ?_⟩
  rcases h.2 with e | ⟨g, cap, cur, e1, e2, e3⟩
  · exact Or.inl e
  · exact Or.inr ⟨g, cap, cur, e1, Nat.zero_le _, e3⟩

/-! ### entries -/
structure En where
  kind : Int
  client : Int
  seq : Int
  text : ByteArray
  ms : List Int
  dest : Int
def En.cells (e : En) (mv : Value) : List Value := [.int .i64 e.kind, .int .i64 e.client, .int .i64 e.seq, .string e.text, mv, .int .i64 e.dest]
theorem En.cells_one (e : En) {mv : Value} (h : mv.oneCell' = true) : ∀ u ∈ e.cells mv, u.oneCell' = true := fun u hu => by
  simp only [En.cells, List.mem_cons, List.not_mem_nil, or_false] at hu
  rcases hu with rfl | rfl | rfl | rfl | rfl | rfl
  · rfl
  · rfl
  · rfl
  · rfl
  · exact h
  · rfl
/-- the six cells of an entry. -/
theorem En.six {w : World} {g n : Nat} {e : En} {mv : Value} (h : ∀ (j : Nat) (u : Value), (e.cells mv)[j]? = some u → w.cell? ⟨g, n + j, none⟩ = some u) :
    w.cell? ⟨g, n, none⟩ = some (.int .i64 e.kind) ∧ w.cell? ⟨g, n + 1, none⟩ = some (.int .i64 e.client) ∧ w.cell? ⟨g, n + 2, none⟩ = some (.int .i64 e.seq) ∧ w.cell? ⟨g, n + 3, none⟩ = some (.string e.text) ∧ w.cell? ⟨g, n + 4, none⟩ = some mv ∧ w.cell? ⟨g, n + 5, none⟩ = some (.int .i64 e.dest) :=
  ⟨h 0 _ rfl, h 1 _ rfl, h 2 _ rfl, h 3 _ rfl, h 4 _ rfl, h 5 _ rfl⟩

/-! ### votes -/
structure Vt where
  slot : Int
  ballot : Int
  e : En
def Vt.cells (v : Vt) (mv : Value) : List Value := .int .i64 v.slot :: .int .i64 v.ballot :: v.e.cells mv
theorem Vt.cells_one (v : Vt) {mv : Value} (h : mv.oneCell' = true) : ∀ u ∈ v.cells mv, u.oneCell' = true := fun u hu => by
  rcases List.mem_cons.1 hu with rfl | h2
  · rfl
  · rcases List.mem_cons.1 h2 with rfl | h3
    · rfl
    · exact En.cells_one _ h u h3
theorem Vt.cells_len (v : Vt) (mv : Value) : (v.cells mv).length = 8 := rfl
/-- members: a row of the call's own above base, or what lies below low. -/
def Mm (low base : Nat) (w : World) (mo : Option Addr) (mc : Nat) (ys : List Int) : Prop := Ir base w (.slice mo ys.length mc) ys ∨ InF (fun k => k < low) w mo ys
theorem Mm.ints {low base : Nat} {w : World} {mo : Option Addr} {mc : Nat} {ys : List Int} (h : Mm low base w mo mc ys) : IntsR w mo ys := by
  rcases h with h | h
  · obtain ⟨ao, cap, e, hf, _⟩ := h.slice
    cases e; exact hf.1
  · exact h.ints
theorem Mm.below {low base : Nat} {w w' : World} {mo : Option Addr} {mc : Nat} {ys : List Int} (h : Mm low base w mo mc ys) (hb : Below w.heap.size w w') : Mm low base w' mo mc ys := by
  rcases h with h | h
  · exact Or.inl (h.below hb)
  · exact Or.inr (h.below hb)
theorem Mm.mono {low base low' base' : Nat} {w : World} {mo : Option Addr} {mc : Nat} {ys : List Int} (h : Mm low base w mo mc ys) (hl : low ≤ low') (hb : base' ≤ base) : Mm low' base' w mo mc ys := by
  rcases h with h | h
  · refine Or.inl ⟨h.1, ?_⟩
    rcases h.2 with e | ⟨g, cp, cur, e1, e2, e3⟩
    · exact Or.inl e
    · exact Or.inr ⟨g, cp, cur, e1, Nat.le_trans hb e2, e3⟩
  · exact Or.inr (h.mono (fun k hk => Nat.lt_of_lt_of_le hk hl))
/-- blocks above low, of none of these types. -/
def Far (low : Nat) (ts : List TypeId) (w : World) (D : Nat → Prop) : Prop := ∀ k, D k → k < w.heap.size → low ≤ k ∧ ∀ cur e fr, w.heap[k]? = some (.cells cur e fr) → e ∉ ts
theorem own_far {base low : Nat} {ts : List TypeId} {D : Nat → Prop} {w w' : World} {e : TypeId} {size : Nat} {v : Value} {n : Nat} {xs : List Value} (h : w.ownsRow base e size v n xs) (hk : Kp D w w') (hf : Far low ts w D) (he : e ∈ ts) : w'.ownsRow base e size v n xs :=
  own_kept h fun k ho => hk.2 k (h.lt k ho).2 (fun hd => by
    obtain ⟨_, cur, fr, hc⟩ := own_tag h k ho
    exact (hf k hd (h.lt k ho).2).2 _ _ _ hc he)
theorem InF.far {low : Nat} {ts : List TypeId} {D : Nat → Prop} {w w' : World} {mo : Option Addr} {ys : List Int} (h : InF (fun k => k < low) w mo ys) (hk : Kp D w w') (hf : Far low ts w D) : InF (fun k => k < low) w' mo ys := fun i hi => by
  obtain ⟨a, h1, h2, h3⟩ := h i hi
  refine ⟨a, h1, h2, hk.cell h3 (fun hd => ?_)⟩
  have := blk_lt h3
  have := (hf _ hd this).1
  rw [add_block] at this
  omega
theorem Mm.far {low base : Nat} {ts : List TypeId} {D : Nat → Prop} {w w' : World} {mo : Option Addr} {mc : Nat} {ys : List Int} (h : Mm low base w mo mc ys) (hk : Kp D w w') (hf : Far low ts w D) (hi : 3 ∈ ts) : Mm low base w' mo mc ys := by
  rcases h with h | h
  · exact Or.inl (own_far h hk hf hi)
  · exact Or.inr (h.far hk hf)
theorem Far.grown {low base : Nat} {ts : List TypeId} {w : World} {e : TypeId} {size : Nat} {v : Value} {n : Nat} {xs : List Value} (h : w.ownsRow base e size v n xs) (hl : low ≤ base) (he : e ∉ ts) : Far low ts w (fun k => v.ownBlock = some k) := fun k hk _ => by
  obtain ⟨h1, cur, fr, hc⟩ := own_tag h k hk
  exact ⟨Nat.le_trans hl h1, fun cur' e' fr' hc' => by rw [hc] at hc'; cases hc'; exact he⟩
theorem Kp.of_grown {w w' : World} {row : Option Nat} (hg : w.grownBy w' row) : Kp (fun k => row = some k) w w' := (Kp.refl _ w).grown hg (fun _ _ x => x)
/-- a slice of votes. -/
def VsR (low base : Nat) (w : World) (ao : Option Addr) (vs : List Vt) : Prop :=
  ∀ (i : Nat) (v : Vt), vs[i]? = some v → ∃ g off mo mc, ao = some ⟨g, off, none⟩ ∧ (∀ (j : Nat) (u : Value), (v.cells (.slice mo v.e.ms.length mc))[j]? = some u → w.cell? ⟨g, off + i * 8 + j, none⟩ = some u) ∧ Mm low base w mo mc v.e.ms ∧ v.e.ms.length ≤ 1000000
theorem VsR.below {low base : Nat} {w w' : World} {ao : Option Addr} {vs : List Vt} (h : VsR low base w ao vs) (hb : Below w.heap.size w w') : VsR low base w' ao vs := fun i v hi => by
  obtain ⟨g, off, mo, mc, h1, h3, h4, h5⟩ := h i v hi
  exact ⟨g, off, mo, mc, h1, fun j u hj => by rw [hb.cell (blk_lt (h3 j u hj))]; exact h3 j u hj, h4.below hb, h5⟩
theorem VsR.mono {low base low' base' : Nat} {w : World} {ao : Option Addr} {vs : List Vt} (h : VsR low base w ao vs) (hl : low ≤ low') (hb : base' ≤ base) : VsR low' base' w ao vs := fun i v hi => by
  obtain ⟨g, off, mo, mc, h1, h3, h4, h5⟩ := h i v hi
  exact ⟨g, off, mo, mc, h1, h3, h4.mono hl hb, h5⟩
theorem VsR.nil (low base : Nat) (w : World) (ao : Option Addr) : VsR low base w ao [] := fun i e hi => by simp at hi
theorem VsR.take {low base : Nat} {w : World} {ao : Option Addr} {vs : List Vt} (h : VsR low base w ao vs) (n : Nat) : VsR low base w ao (vs.take n) := fun i v hi => by
  rw [List.getElem?_take] at hi
  split at hi
  · exact h i v hi
  · cases hi
theorem VsR.drop {low base : Nat} {w : World} {g off : Nat} {vs : List Vt} (h : VsR low base w (some ⟨g, off, none⟩) vs) (n : Nat) : VsR low base w (some ⟨g, off + n * 8, none⟩) (vs.drop n) := fun i v hi => by
  rw [List.getElem?_drop] at hi
  obtain ⟨g', off', mo, mc, h1, h3, h4, h5⟩ := h (n + i) v hi
  cases h1
  refine ⟨g, _, mo, mc, rfl, fun j u hj => ?_, h4, h5⟩
  have := h3 j u hj
  rwa [show off + n * 8 + i * 8 + j = off + (n + i) * 8 + j by omega]
theorem Vt.eight {w : World} {g n : Nat} {v : Vt} {mv : Value} (h : ∀ (j : Nat) (u : Value), (v.cells mv)[j]? = some u → w.cell? ⟨g, n + j, none⟩ = some u) :
    w.cell? ⟨g, n, none⟩ = some (.int .i64 v.slot) ∧ w.cell? ⟨g, n + 1, none⟩ = some (.int .i64 v.ballot) ∧ w.cell? ⟨g, n + 2, none⟩ = some (.int .i64 v.e.kind) ∧ w.cell? ⟨g, n + 3, none⟩ = some (.int .i64 v.e.client) ∧ w.cell? ⟨g, n + 4, none⟩ = some (.int .i64 v.e.seq) ∧ w.cell? ⟨g, n + 5, none⟩ = some (.string v.e.text) ∧ w.cell? ⟨g, n + 6, none⟩ = some mv ∧ w.cell? ⟨g, n + 7, none⟩ = some (.int .i64 v.e.dest) :=
  ⟨h 0 _ rfl, h 1 _ rfl, h 2 _ rfl, h 3 _ rfl, h 4 _ rfl, h 5 _ rfl, h 6 _ rfl, h 7 _ rfl⟩
theorem VsR.at {low base : Nat} {w : World} {ao : Option Addr} {vs : List Vt} (h : VsR low base w ao vs) {k : Nat} {v : Vt} (he : vs[k]? = some v) :
    ∃ g off mo mc, ao = some ⟨g, off, none⟩ ∧ w.cell? ⟨g, off + k * 8, none⟩ = some (.int .i64 v.slot) ∧ w.cell? ⟨g, off + k * 8 + 1, none⟩ = some (.int .i64 v.ballot) ∧ w.cell? ⟨g, off + k * 8 + 2, none⟩ = some (.int .i64 v.e.kind) ∧ w.cell? ⟨g, off + k * 8 + 3, none⟩ = some (.int .i64 v.e.client) ∧ w.cell? ⟨g, off + k * 8 + 4, none⟩ = some (.int .i64 v.e.seq) ∧ w.cell? ⟨g, off + k * 8 + 5, none⟩ = some (.string v.e.text) ∧ w.cell? ⟨g, off + k * 8 + 6, none⟩ = some (.slice mo v.e.ms.length mc) ∧ w.cell? ⟨g, off + k * 8 + 7, none⟩ = some (.int .i64 v.e.dest) ∧ Mm low base w mo mc v.e.ms ∧ v.e.ms.length ≤ 1000000 := by
  obtain ⟨g, off, mo, cap, h1, h3, h4, h5⟩ := h k v he
  obtain ⟨k0, k1, k2, k3, k4, k5, k6, k7⟩ := Vt.eight h3
  exact ⟨g, off, mo, cap, h1, k0, k1, k2, k3, k4, k5, k6, k7, h4, h5⟩

/-! ### a row of votes of the call's own -/
def VRow (T : TypeId) (low base : Nat) (w : World) (rv : Value) (vs : List Vt) : Prop :=
  ∃ xs, w.ownsRow base T 8 rv vs.length xs ∧ ∀ (i : Nat) (v : Vt), vs[i]? = some v → ∃ mo mc, (∀ (j : Nat) (u : Value), (v.cells (.slice mo v.e.ms.length mc))[j]? = some u → xs[i * 8 + j]? = some u) ∧ Mm low base w mo mc v.e.ms ∧ v.e.ms.length ≤ 1000000
theorem VRow.nil (T : TypeId) (low base : Nat) (w : World) : VRow T low base w (.slice none 0 0) [] := ⟨[], ⟨rfl, Or.inl ⟨rfl, rfl⟩⟩, fun i r hi => by simp at hi⟩
theorem VRow.far {T : TypeId} {low base : Nat} {ts : List TypeId} {D : Nat → Prop} {w w' : World} {rv : Value} {vs : List Vt} (h : VRow T low base w rv vs) (hk : Kp D w w') (hf : Far low ts w D) (hi : 3 ∈ ts) (ht : T ∈ ts) : VRow T low base w' rv vs := by
  obtain ⟨xs, h1, h3⟩ := h
  refine ⟨xs, own_far h1 hk hf ht, fun i r hr => ?_⟩
  obtain ⟨mo, mc, k1, k2, k4⟩ := h3 i r hr
  exact ⟨mo, mc, k1, k2.far hk hf hi, k4⟩
theorem VRow.below {T : TypeId} {low base : Nat} {w w' : World} {rv : Value} {vs : List Vt} (h : VRow T low base w rv vs) (hb : Below w.heap.size w w') : VRow T low base w' rv vs := by
  obtain ⟨xs, h1, h3⟩ := h
  refine ⟨xs, own_below h1 hb, fun i r hr => ?_⟩
  obtain ⟨mo, mc, k1, k2, k4⟩ := h3 i r hr
  exact ⟨mo, mc, k1, k2.below hb, k4⟩
theorem own_mono {base base' : Nat} {w : World} {e : TypeId} {size : Nat} {v : Value} {n : Nat} {xs : List Value} (h : w.ownsRow base e size v n xs) (hb : base' ≤ base) : w.ownsRow base' e size v n xs := by
  refine ⟨h.1, ?_⟩
  rcases h.2 with e | ⟨g, cp, cur, e1, e2, e3⟩
  · exact Or.inl e
  · exact Or.inr ⟨g, cp, cur, e1, Nat.le_trans hb e2, e3⟩
theorem VRow.mono {T : TypeId} {low base low' base' : Nat} {w : World} {rv : Value} {vs : List Vt} (h : VRow T low base w rv vs) (hl : low ≤ low') (hb : base' ≤ base) : VRow T low' base' w rv vs := by
  obtain ⟨xs, h1, h3⟩ := h
  refine ⟨xs, own_mono h1 hb, fun i r hi => ?_⟩
  obtain ⟨mo, mc, k1, k2, k4⟩ := h3 i r hi
  exact ⟨mo, mc, k1, k2.mono hl hb, k4⟩
theorem VRow.slice {T : TypeId} {low base : Nat} {w : World} {rv : Value} {vs : List Vt} (h : VRow T low base w rv vs) : ∃ ao cap, rv = .slice ao vs.length cap ∧ vs.length ≤ cap ∧ cap ≤ maxLen := by
  obtain ⟨xs, h1, _⟩ := h
  rcases h1.2 with ⟨e1, e2⟩ | ⟨g, cap, cur, e1, _, _, e3, e4, _⟩
  · exact ⟨none, 0, by rw [e2]; exact e1, by omega, by decide⟩
  · exact ⟨_, cap, e1, e3, e4⟩
theorem VRow.tag {T : TypeId} {low base : Nat} {w : World} {rv : Value} {vs : List Vt} (h : VRow T low base w rv vs) : ∀ k, rv.ownBlock = some k → base ≤ k ∧ k < w.heap.size ∧ ∃ cur fr, w.heap[k]? = some (.cells cur T fr) := fun k hk => by
  obtain ⟨xs, h1, _⟩ := h
  obtain ⟨a, cur, fr, hc⟩ := own_tag h1 k hk
  exact ⟨a, heap_lt hc, cur, fr, hc⟩
/-- its votes can be read. -/
theorem VRow.vsR {T : TypeId} {low base : Nat} {w : World} {ao : Option Addr} {n cap : Nat} {vs : List Vt} (h : VRow T low base w (.slice ao n cap) vs) : VsR low base w ao vs := fun i v hi => by
  obtain ⟨xs, h1, h2⟩ := h
  obtain ⟨mo, mc, k1, k2, k4⟩ := h2 i v hi
  rcases h1.2 with ⟨e1, e2⟩ | ⟨g, cap', cur, e1, e2, e3, _⟩
  · have := (List.getElem?_eq_some_iff.1 hi).1; omega
  · obtain rfl : ao = some ⟨g, 0, none⟩ := by simp only [Value.slice.injEq] at e1; exact e1.1
    refine ⟨g, 0, mo, mc, rfl, fun j u hj => ?_, k2, k4⟩
    have := World.ownsRow.cells (by rw [e1] at h1; exact h1) (g := g) rfl (i * 8 + j) u (k1 j u hj)
    rw [Addr.add_lit] at this
    rw [Nat.add_assoc]; exact this
abbrev zvote : Value := .agg #[.int .i64 0, .int .i64 0, .int .i64 0, .int .i64 0, .int .i64 0, .string ⟨#[]⟩, .slice none 0 0, .int .i64 0]
theorem Tryz.infoAV : (Tryz.prog.info? 276).map (fun i => (i.zero, i.size, i.bytes)) = some (some zvote, 8, 88) := by kernel_rfl
/-- the cells of votes, one behind the other. -/
def vcells : List Vt → List (Option Addr × Nat) → List Value
  | v :: vs, m :: ms => v.cells (.slice m.1 v.e.ms.length m.2) ++ vcells vs ms
  | _, _ => []
theorem vcells_len : ∀ (vs : List Vt) (ms : List (Option Addr × Nat)), vs.length = ms.length → (vcells vs ms).length = vs.length * 8
  | [], [], _ => rfl
  | v :: vs, m :: ms, h => by
    simp only [vcells, List.length_append, Vt.cells_len, List.length_cons]
    rw [vcells_len vs ms (by simpa using h)]; omega
theorem vcells_at : ∀ (vs : List Vt) (ms : List (Option Addr × Nat)) (i : Nat) (v : Vt) (m : Option Addr × Nat), vs[i]? = some v → ms[i]? = some m → ∀ (j : Nat) (u : Value), (v.cells (.slice m.1 v.e.ms.length m.2))[j]? = some u → (vcells vs ms)[i * 8 + j]? = some u
  | [], _, i, v, m, hv, _ => by simp at hv
  | _ :: _, [], i, v, m, _, hm => by simp at hm
  | v0 :: vs, m0 :: ms, i, v, m, hv, hm => fun j u hj => by
    cases i with
    | zero =>
      simp at hv hm; subst hv; subst hm
      have := (List.getElem?_eq_some_iff.1 hj).1
      simp only [vcells]
      rw [List.getElem?_append_left (by omega)]; simpa using hj
    | succ i =>
      simp only [vcells]
      rw [List.getElem?_append_right (by rw [Vt.cells_len]; omega), Vt.cells_len, show (i + 1) * 8 + j - 8 = i * 8 + j by omega]
      exact vcells_at vs ms i v m (by simpa using hv) (by simpa using hm) j u hj
theorem vcells_inv : ∀ (vs : List Vt) (ms : List (Option Addr × Nat)) (q : Nat) (u : Value), (vcells vs ms)[q]? = some u → ∃ (i j : Nat) (v : Vt) (m : Option Addr × Nat), q = i * 8 + j ∧ vs[i]? = some v ∧ ms[i]? = some m ∧ (v.cells (.slice m.1 v.e.ms.length m.2))[j]? = some u
  | [], _, q, u, h => by simp [vcells] at h
  | _ :: _, [], q, u, h => by simp [vcells] at h
  | v0 :: vs, m0 :: ms, q, u, h => by
    simp only [vcells] at h
    by_cases hq : q < 8
    · rw [List.getElem?_append_left (by rw [Vt.cells_len]; exact hq)] at h
      exact ⟨0, q, v0, m0, by omega, rfl, rfl, h⟩
    · rw [List.getElem?_append_right (by rw [Vt.cells_len]; omega), Vt.cells_len] at h
      obtain ⟨i, j, v, m, e, h1, h2, h3⟩ := vcells_inv vs ms (q - 8) u h
      exact ⟨i + 1, j, v, m, by omega, by simpa using h1, by simpa using h2, h3⟩
theorem VsR.pick {low base : Nat} {w : World} {ad : Addr} {us : List Vt} (h : VsR low base w (some ad) us) : ∃ ms : List (Option Addr × Nat), us.length = ms.length ∧ (us ≠ [] → ∃ g off, ad = ⟨g, off, none⟩) ∧ (∀ (q : Nat) (u : Value), (vcells us ms)[q]? = some u → w.cell? (ad.add q) = some u) ∧ ∀ (i : Nat) (v : Vt) (m : Option Addr × Nat), us[i]? = some v → ms[i]? = some m → Mm low base w m.1 m.2 v.e.ms ∧ v.e.ms.length ≤ 1000000 := by
  have hc : ∀ i : Nat, ∃ m : Option Addr × Nat, ∀ v : Vt, us[i]? = some v → ∃ g off, ad = ⟨g, off, none⟩ ∧ (∀ (j : Nat) (u : Value), (v.cells (.slice m.1 v.e.ms.length m.2))[j]? = some u → w.cell? ⟨g, off + i * 8 + j, none⟩ = some u) ∧ Mm low base w m.1 m.2 v.e.ms ∧ v.e.ms.length ≤ 1000000 := fun i => by
    cases hv : us[i]? with
    | none => exact ⟨(none, 0), fun v h => by cases h⟩
    | some v =>
      obtain ⟨g, off, mo, mc, h1, h3, h4, h5⟩ := h i v hv
      refine ⟨(mo, mc), fun v' hv' => ?_⟩
      cases hv'
      exact ⟨g, off, by simpa using h1, h3, h4, h5⟩
  obtain ⟨fm, hfm⟩ := Classical.axiomOfChoice hc
  refine ⟨(List.range us.length).map fm, by simp, fun hne => ?_, fun q u hq => ?_, fun i v m hv hm => ?_⟩
  · obtain ⟨v, hv⟩ : ∃ v, us[0]? = some v := ⟨_, List.getElem?_eq_getElem (List.length_pos_iff.2 hne)⟩
    obtain ⟨g, off, e, _⟩ := hfm 0 v hv
    exact ⟨g, off, e⟩
  · obtain ⟨i, j, v, m, rfl, h1, h2, h3⟩ := vcells_inv us _ q u hq
    have hi := (List.getElem?_eq_some_iff.1 h1).1
    rw [List.getElem?_map, List.getElem?_range hi] at h2
    simp at h2; subst h2
    obtain ⟨g, off, rfl, hcell, _⟩ := hfm i v h1
    rw [Addr.add_lit, ← Nat.add_assoc]; exact hcell j u h3
  · have hi := (List.getElem?_eq_some_iff.1 hv).1
    rw [List.getElem?_map, List.getElem?_range hi] at hm
    simp at hm; subst hm
    obtain ⟨g, off, _, _, h4, h5⟩ := hfm i v hv
    exact ⟨h4, h5⟩
theorem VsR.none_nil {low base : Nat} {w : World} {us : List Vt} (h : VsR low base w none us) : us = [] := by
  cases us with
  | nil => rfl
  | cons y ys => obtain ⟨_, _, _, _, e, _⟩ := h 0 y rfl; cases e
theorem vcells_one : ∀ (vs : List Vt) (ms : List (Option Addr × Nat)), ∀ u ∈ vcells vs ms, u.oneCell' = true
  | [], _, u, h => by simp [vcells] at h
  | _ :: _, [], u, h => by simp [vcells] at h
  | v :: vs, m :: ms, u, h => by
    simp only [vcells, List.mem_append] at h
    rcases h with h | h
    · exact Vt.cells_one v rfl u h
    · exact vcells_one vs ms u h
/-- append of votes. -/
theorem run_appV {T ts : TypeId} (hu : Tryz.prog.underlying ts = some (.slice T)) (hT : T ≠ 3) (hz : (Tryz.prog.info? T).map (fun i => (i.zero, i.size, i.bytes)) = some (some zvote, 8, 88)) {low base : Nat} (hlb : low ≤ base) {w : World} {v : Value} {vs : List Vt} (h : VRow T low base w v vs)
    (ty : TypeId) (ao : Option Addr) (m c : Nat) (us : List Vt) (hm : us.length = m) (hs : VsR low base w ao us) (hl : vs.length + m ≤ 1000000) (hb : base ≤ w.heap.size) :
    ∃ v' w', (Builtin.append_ #[ts, ts] ty #[v, .slice ao m c]).run Tryz.prog w = .ok v' w' ∧ VRow T low base w' v' (vs ++ us) ∧ w.grownBy w' v.ownBlock := by
  obtain ⟨i0, hi0, hz0, hz1, hz2⟩ := info_parts hz
  cases ao with
  | none =>
    obtain rfl := hs.none_nil
    simp only [List.length_nil] at hm
    subst hm
    obtain ⟨av, cv, rfl, hc, _⟩ := h.slice
    have hr := run_append_nothing (P := Tryz.prog) w ts ts ty T i0 hu hi0 av vs.length cv hc (.slice none 0 c) (Src.ofNil w hu c)
    exact ⟨_, _, hr, by simpa using h, ⟨rfl, rfl, rfl, Nat.le_refl _, fun _ _ _ => rfl⟩⟩
  | some ad =>
    obtain ⟨ms, hml, hne, hcells, hmem⟩ := hs.pick
    obtain ⟨xs, h1, h3⟩ := h
    have hcl : (vcells us ms).length = m * 8 := by rw [vcells_len us ms hml, hm]
    obtain ⟨v', w', hr, o', g', _⟩ := run_append_own_at (P := Tryz.prog) w base ts ty T i0 _ 8 88 hu hi0 hz0 hz1 hz2 rfl (by decide) v vs.length xs h1 ad m c (vcells us ms) (by rw [hcl]) hcells (vcells_one us ms) (by unfold maxLen; omega) (by omega) hb
    have hF : Far low [3] w (fun k => v.ownBlock = some k) := Far.grown h1 hlb (by simpa using hT)
    have hK := Kp.of_grown g'
    have hxl : xs.length = vs.length * 8 := h1.1
    refine ⟨v', w', hr, ⟨_, by rw [List.length_append, hm]; exact o', fun i q hq => ?_⟩, g'⟩
    by_cases he : i < vs.length
    · rw [List.getElem?_append_left he] at hq
      obtain ⟨mo, mc, u1, u2, u4⟩ := h3 i q hq
      refine ⟨mo, mc, fun j x hj => ?_, u2.far hK hF (by simp), u4⟩
      have hj8 : j < 8 := (List.getElem?_eq_some_iff.1 hj).1
      rw [List.getElem?_append_left (by omega)]; exact u1 j x hj
    · rw [List.getElem?_append_right (by omega)] at hq
      obtain ⟨mm, hmm⟩ : ∃ mm, ms[i - vs.length]? = some mm := ⟨_, List.getElem?_eq_getElem (by rw [← hml]; exact (List.getElem?_eq_some_iff.1 hq).1)⟩
      obtain ⟨k1, k2⟩ := hmem _ _ _ hq hmm
      refine ⟨mm.1, mm.2, fun j x hj => ?_, k1.far hK hF (by simp), k2⟩
      have hle : vs.length ≤ i := by omega
      rw [List.getElem?_append_right (by omega), show i * 8 + j - xs.length = (i - vs.length) * 8 + j by omega]
      exact vcells_at us ms _ _ _ hq hmm j x hj
theorem wpList_appV {T ts : TypeId} (hu : Tryz.prog.underlying ts = some (.slice T)) (hT : T ≠ 3) (hz : (Tryz.prog.info? T).map (fun i => (i.zero, i.size, i.bytes)) = some (some zvote, 8, 88)) {w : World} {ops : Array Oper} {rest : List Oper} {o : Oper} {a : Act} {Q : Exit → Act → World → Prop} (hgd : o.guard = none) (s x : Operand)
    (ho : o.op = .call { callee := .builtin .append, args := #[s, x], argTypes := #[ts, ts] }) (low base : Nat) (hlb : low ≤ base) (v : Value) (vs : List Vt) (hs : a.eval s = v) (h : VRow T low base w v vs)
    (ao : Option Addr) (m c : Nat) (us : List Vt) (hx : a.eval x = .slice ao m c) (hm : us.length = m) (hr : VsR low base w ao us) (hl : vs.length + m ≤ 1000000) (hb : base ≤ w.heap.size)
    (hk : ∀ v' w', VRow T low base w' v' (vs ++ us) → w.grownBy w' v.ownBlock → wpList Tryz.prog ops Q rest (a.put o.dst v') w') : wpList Tryz.prog ops Q (o :: rest) a w := by
  refine wpList_plain hgd fun K hK => ?_
  obtain ⟨v', w', hrun, h1, h2⟩ := run_appV hu hT hz hlb h o.type ao m c us hm hr hl hb
  unfold Oper.wp execOp
  simp only [ho, resolve, invoke, builtin, Sem.run_bind, Sem.run_pure, Result.andThen_ok, List.map_toArray, List.map_cons, List.map_nil, hs, hx, hrun]
  exact hK _ _ (hk v' w' h1 h2)
end Go.Proofs.YtjplhiflemmkfaaGreatDoor.Aa
namespace Go.Proofs.YtjplhiflemmkfaaGreatDoor.Aa
open Go.RowKit Go.Maps

abbrev noneF : Value := .func (.func 279) #[] #[]
theorem isNone_any (s : Int) (w : World) : Calls Tryz.prog 279 #[.int .i64 s] w fun e w' => e = .returned (.bool (decide (s < 1 ∨ 64 < s))) ∧ w' = w := by
  by_cases h1 : s < 1
  · rw [decide_eq_true (Or.inl h1)]
    go_enter Tryz.func279, Tryz.ntmps279
    go_wp2
    go_ret
    exact ⟨rfl, rfl⟩
  · by_cases h2 : 64 < s
    · rw [decide_eq_true (Or.inr h2)]
      go_enter Tryz.func279, Tryz.ntmps279
      go_wp2
      go_ret
      exact ⟨rfl, rfl⟩
    · rw [decide_eq_false (by omega)]
      go_enter Tryz.func279, Tryz.ntmps279
      go_wp2
      go_ret
      exact ⟨rfl, rfl⟩
theorem index_nil (w : World) : Calls Tryz.prog 311 #[.slice none 0 0, noneF] w fun e w' => e = .returned (.int .i64 (-1)) ∧ w' = w := by
  go_enter Tryz.func311, Tryz.ntmps311
  go_wp2
  refine wp_loop_rounds 1 ?_; rw [rounds_succ]
  go_wp2
  go_ret
  exact ⟨rfl, rfl⟩
theorem index_one (nb : Nat) (s : Int) (w : World) (hc : w.cell? ⟨nb, 0, none⟩ = some (.int .i64 s)) : Calls Tryz.prog 311 #[.slice (some ⟨nb, 0, none⟩) 1 1, noneF] w fun e w' => e = .returned (.int .i64 (if s < 1 ∨ 64 < s then 0 else -1)) ∧ w' = w := by
  have C := hide (isNone_any s w)
  by_cases h : s < 1 ∨ 64 < s
  · rw [decide_eq_true h] at C
    rw [if_pos h]
    clear h
    go_enter Tryz.func311, Tryz.ntmps311
    go_wp2
    refine wp_loop_rounds 1 ?_; rw [rounds_succ]
    go_wp2_with (go_at_call 279; refine (unhide C).mono ?_; rintro e w' ⟨rfl, rfl⟩)
    go_ret
    exact ⟨rfl, rfl⟩
  · rw [decide_eq_false h] at C
    rw [if_neg h]
    clear h
    go_enter Tryz.func311, Tryz.ntmps311
    go_wp2
    refine wp_loop_rounds 2 ?_; rw [rounds_succ]
    go_wp2_with (go_at_call 279; refine (unhide C).mono ?_; rintro e w' ⟨rfl, rfl⟩)
    rw [rounds_succ]
    go_wp2
    go_ret
    exact ⟨rfl, rfl⟩
theorem contains_nil (w : World) : Calls Tryz.prog 278 #[.slice none 0 0, noneF] w fun e w' => e = .returned (.bool false) ∧ w' = w := by
  have C := hide (index_nil w)
  go_enter Tryz.func278, Tryz.ntmps278
  go_wp2_with (go_at_call 311; refine (unhide C).mono ?_; rintro e w' ⟨rfl, rfl⟩)
  go_ret
  exact ⟨rfl, rfl⟩
theorem contains_one (nb : Nat) (s : Int) (w : World) (hc : w.cell? ⟨nb, 0, none⟩ = some (.int .i64 s)) : Calls Tryz.prog 278 #[.slice (some ⟨nb, 0, none⟩) 1 1, noneF] w fun e w' => e = .returned (.bool (decide (s < 1 ∨ 64 < s))) ∧ w' = w := by
  have C := hide (index_one nb s w hc)
  clear hc
  by_cases h : s < 1 ∨ 64 < s
  · rw [if_pos h] at C
    rw [decide_eq_true h]
    clear h
    go_enter Tryz.func278, Tryz.ntmps278
    go_wp2_with (go_at_call 311; refine (unhide C).mono ?_; rintro e w' ⟨rfl, rfl⟩)
    go_ret
    exact ⟨rfl, rfl⟩
  · rw [if_neg h] at C
    rw [decide_eq_false h]
    clear h
    go_enter Tryz.func278, Tryz.ntmps278
    go_wp2_with (go_at_call 311; refine (unhide C).mono ?_; rintro e w' ⟨rfl, rfl⟩)
    go_ret
    exact ⟨rfl, rfl⟩
/-- what is refused: a ballot, whether a slot is none, what was promised. -/
def noOf (P b : Int) (bad : Bool) : Int := if b < 1 ∨ bad = true then 1 else if b < P then 19 else 0
def RefOut (n : Int) (v : Value) (w : World) : Prop := (n = 0 ∧ v = .nilIface) ∨ (n ≠ 0 ∧ ∃ b, v = refV b ∧ Ref w b n)
set_option maxRecDepth 20000 in
theorem refuse_of (P b : Int) (bad : Bool) (p : Nat) (sv : Value) (w : World) (hp : w.cell? ⟨p, 0, none⟩ = some (.int .i64 P)) (hc : Calls Tryz.prog 278 #[sv, noneF] w fun e w' => e = .returned (.bool bad) ∧ w' = w) :
    Calls Tryz.prog 238 #[.pointer (some ⟨p, 0, none⟩), .int .i64 b, sv] w fun e w' => ∃ v, e = .returned v ∧ RefOut (noOf P b bad) v w' ∧ Below w.heap.size w w' := by
  have C := hide hc
  clear hc
  by_cases h1 : b < 1
  · have e1 : noOf P b bad = 1 := by unfold noOf; rw [if_pos (Or.inl h1)]
    rw [e1]
    clear e1
    go_enter Tryz.func238, Tryz.ntmps238
    go_wp2
    go_ret
    exact ⟨_, rfl, Or.inr ⟨by decide, _, rfl, Ref.new _ _ _ rfl⟩, (Below.refl _ w).alloc (Nat.le_refl _) _⟩
  · cases bad with
    | true =>
      have e1 : noOf P b true = 1 := by unfold noOf; rw [if_pos (Or.inr rfl)]
      rw [e1]
      clear e1
      go_enter Tryz.func238, Tryz.ntmps238
      go_wp2_with (go_at_call 278; refine (unhide C).mono ?_; rintro e w' ⟨rfl, rfl⟩)
      go_ret
      exact ⟨_, rfl, Or.inr ⟨by decide, _, rfl, Ref.new _ _ _ rfl⟩, (Below.refl _ _).alloc (Nat.le_refl _) _⟩
    | false =>
      by_cases h2 : b < P
      · have e1 : noOf P b false = 19 := by unfold noOf; rw [if_neg (by simp; omega), if_pos h2]
        rw [e1]
        clear e1
        go_enter Tryz.func238, Tryz.ntmps238
        go_wp2_with (go_at_call 278; refine (unhide C).mono ?_; rintro e w' ⟨rfl, rfl⟩)
        go_ret
        exact ⟨_, rfl, Or.inr ⟨by decide, _, rfl, Ref.new _ _ _ rfl⟩, (Below.refl _ _).alloc (Nat.le_refl _) _⟩
      · have e1 : noOf P b false = 0 := by unfold noOf; rw [if_neg (by simp; omega), if_neg h2]
        rw [e1]
        clear e1
        go_enter Tryz.func238, Tryz.ntmps238
        go_wp2_with (go_at_call 278; refine (unhide C).mono ?_; rintro e w' ⟨rfl, rfl⟩)
        go_ret
        exact ⟨_, rfl, Or.inl ⟨rfl, rfl⟩, Below.refl _ _⟩
end Go.Proofs.YtjplhiflemmkfaaGreatDoor.Aa
namespace Go.Proofs.YtjplhiflemmkfaaGreatDoor.Aa
open Go.RowKit Go.Maps

/-- a store of a whole vote. -/
theorem eight_end {w y : World} {B : Nat} {v0 v1 v2 v3 v4 v5 v6 v7 : Value} {z0 z1 z2 z3 z4 z5 z6 z7 : Value} {t : TypeId} (hz : y.heap[B]? = some (.cells #[z0, z1, z2, z3, z4, z5, z6, z7] t (0, 0))) (hB : w.heap.size ≤ B) (hb : Below w.heap.size w y) (W : World)
    (hW : W = ((((((((y.setCell ⟨B, 0, none⟩ v0).setCell ⟨B, 1, none⟩ v1).setCell ⟨B, 2, none⟩ v2).setCell ⟨B, 3, none⟩ v3).setCell ⟨B, 4, none⟩ v4).setCell ⟨B, 5, none⟩ v5).setCell ⟨B, 6, none⟩ v6).setCell ⟨B, 7, none⟩ v7)) :
    W.heap[B]? = some (.cells #[v0, v1, v2, v3, v4, v5, v6, v7] t (0, 0)) ∧ Below w.heap.size w W ∧ ∀ k, k ≠ B → W.heap[k]? = y.heap[k]? := by
  obtain ⟨y0, e0⟩ : ∃ x, (y.setCell ⟨B, 0, none⟩ v0) = x := ⟨_, rfl⟩
  have h0 : y0.heap[B]? = some (.cells #[v0, z1, z2, z3, z4, z5, z6, z7] t (0, 0)) := by rw [← e0]; exact setCell_block hz
  have b0 : Below w.heap.size w y0 := by rw [← e0]; exact hb.setCell (p := ⟨B, 0, none⟩) hB v0
  have k0 : ∀ k, k ≠ B → y0.heap[k]? = y.heap[k]? := fun k hk => by rw [← e0, Below.heap_setCell _ _ _ k hk]
  obtain ⟨y1, e1⟩ : ∃ x, (y0.setCell ⟨B, 1, none⟩ v1) = x := ⟨_, rfl⟩
  have h1 : y1.heap[B]? = some (.cells #[v0, v1, z2, z3, z4, z5, z6, z7] t (0, 0)) := by rw [← e1]; exact setCell_block h0
  have b1 : Below w.heap.size w y1 := by rw [← e1]; exact b0.setCell (p := ⟨B, 1, none⟩) hB v1
  have k1 : ∀ k, k ≠ B → y1.heap[k]? = y.heap[k]? := fun k hk => by rw [← e1, Below.heap_setCell _ _ _ k hk]; exact k0 k hk
  obtain ⟨y2, e2⟩ : ∃ x, (y1.setCell ⟨B, 2, none⟩ v2) = x := ⟨_, rfl⟩
  have h2 : y2.heap[B]? = some (.cells #[v0, v1, v2, z3, z4, z5, z6, z7] t (0, 0)) := by rw [← e2]; exact setCell_block h1
  have b2 : Below w.heap.size w y2 := by rw [← e2]; exact b1.setCell (p := ⟨B, 2, none⟩) hB v2
  have k2 : ∀ k, k ≠ B → y2.heap[k]? = y.heap[k]? := fun k hk => by rw [← e2, Below.heap_setCell _ _ _ k hk]; exact k1 k hk
  obtain ⟨y3, e3⟩ : ∃ x, (y2.setCell ⟨B, 3, none⟩ v3) = x := ⟨_, rfl⟩
  have h3 : y3.heap[B]? = some (.cells #[v0, v1, v2, v3, z4, z5, z6, z7] t (0, 0)) := by rw [← e3]; exact setCell_block h2
  have b3 : Below w.heap.size w y3 := by rw [← e3]; exact b2.setCell (p := ⟨B, 3, none⟩) hB v3
  have k3 : ∀ k, k ≠ B → y3.heap[k]? = y.heap[k]? := fun k hk => by rw [← e3, Below.heap_setCell _ _ _ k hk]; exact k2 k hk
  obtain ⟨y4, e4⟩ : ∃ x, (y3.setCell ⟨B, 4, none⟩ v4) = x := ⟨_, rfl⟩
  have h4 : y4.heap[B]? = some (.cells #[v0, v1, v2, v3, v4, z5, z6, z7] t (0, 0)) := by rw [← e4]; exact setCell_block h3
  have b4 : Below w.heap.size w y4 := by rw [← e4]; exact b3.setCell (p := ⟨B, 4, none⟩) hB v4
  have k4 : ∀ k, k ≠ B → y4.heap[k]? = y.heap[k]? := fun k hk => by rw [← e4, Below.heap_setCell _ _ _ k hk]; exact k3 k hk
  obtain ⟨y5, e5⟩ : ∃ x, (y4.setCell ⟨B, 5, none⟩ v5) = x := ⟨_, rfl⟩
  have h5 : y5.heap[B]? = some (.cells #[v0, v1, v2, v3, v4, v5, z6, z7] t (0, 0)) := by rw [← e5]; exact setCell_block h4
  have b5 : Below w.heap.size w y5 := by rw [← e5]; exact b4.setCell (p := ⟨B, 5, none⟩) hB v5
  have k5 : ∀ k, k ≠ B → y5.heap[k]? = y.heap[k]? := fun k hk => by rw [← e5, Below.heap_setCell _ _ _ k hk]; exact k4 k hk
  obtain ⟨y6, e6⟩ : ∃ x, (y5.setCell ⟨B, 6, none⟩ v6) = x := ⟨_, rfl⟩
  have h6 : y6.heap[B]? = some (.cells #[v0, v1, v2, v3, v4, v5, v6, z7] t (0, 0)) := by rw [← e6]; exact setCell_block h5
  have b6 : Below w.heap.size w y6 := by rw [← e6]; exact b5.setCell (p := ⟨B, 6, none⟩) hB v6
  have k6 : ∀ k, k ≠ B → y6.heap[k]? = y.heap[k]? := fun k hk => by rw [← e6, Below.heap_setCell _ _ _ k hk]; exact k5 k hk
  obtain ⟨y7, e7⟩ : ∃ x, (y6.setCell ⟨B, 7, none⟩ v7) = x := ⟨_, rfl⟩
  have h7 : y7.heap[B]? = some (.cells #[v0, v1, v2, v3, v4, v5, v6, v7] t (0, 0)) := by rw [← e7]; exact setCell_block h6
  have b7 : Below w.heap.size w y7 := by rw [← e7]; exact b6.setCell (p := ⟨B, 7, none⟩) hB v7
  have k7 : ∀ k, k ≠ B → y7.heap[k]? = y.heap[k]? := fun k hk => by rw [← e7, Below.heap_setCell _ _ _ k hk]; exact k6 k hk
  rw [e0, e1, e2, e3, e4, e5, e6, e7] at hW
  subst hW
  exact ⟨h7, b7, k7⟩
theorem Ir.other {base B : Nat} {y W : World} {v : Value} {ys : List Int} (h : Ir base y v ys) (hk : ∀ k, k ≠ B → W.heap[k]? = y.heap[k]?) {cs : Array Value} {t : TypeId} {fr : Nat × Nat} (hB : y.heap[B]? = some (.cells cs t fr)) (ht : t ≠ 3) : Ir base W v ys :=
  own_kept h fun k e => hk k (fun x => by
    subst x
    obtain ⟨_, cur, fr', hc⟩ := own_tag h k e
    rw [hB] at hc; cases hc; exact ht rfl)

set_option maxRecDepth 20000 in
set_option maxHeartbeats 1000000 in
theorem twin_any (v : Vt) (mo : Option Addr) (cap : Nat) (w : World) (hb : IntsR w mo v.e.ms) (hl : v.e.ms.length ≤ 1000000) :
    Calls Tryz.prog 280 #[.agg (v.cells (.slice mo v.e.ms.length cap)).toArray] w fun x w' =>
      ∃ mo' mc', x = .returned (.agg (v.cells (.slice mo' v.e.ms.length mc')).toArray) ∧ Ir w.heap.size w' (.slice mo' v.e.ms.length mc') v.e.ms ∧ Below w.heap.size w w' := by
  obtain ⟨slot, ballot, ⟨kind, client, seq, text, ms, dest⟩⟩ := v
  simp only [Vt.cells, En.cells] at hb hl ⊢
  obtain ⟨n, hn⟩ : ∃ n, ms.length = n := ⟨_, rfl⟩
  rw [hn] at hl ⊢
  obtain ⟨W0, hW0⟩ : ∃ W, w.alloc (.cells #[.int .i64 slot, .int .i64 ballot, .int .i64 kind, .int .i64 client, .int .i64 seq, .string text, .slice mo n cap, .int .i64 dest] 276) = W := ⟨_, rfl⟩
  obtain ⟨W, hW⟩ : ∃ W, W0.alloc (.cells #[.int .i64 0, .int .i64 0, .int .i64 0, .int .i64 0, .int .i64 0, .string ⟨#[]⟩, .slice none 0 0, .int .i64 0] 276) = W := ⟨_, rfl⟩
  have s0 : W0.heap.size = w.heap.size + 1 := by rw [← hW0]; simp
  have b0 : Below w.heap.size w W0 := by rw [← hW0]; exact (Below.refl _ w).alloc (Nat.le_refl _) _
  have b1 : Below W0.heap.size W0 W := by rw [← hW]; exact (Below.refl _ W0).alloc (Nat.le_refl _) _
  have bW := below_far b0 b1
  have x0 : W.heap[w.heap.size]? = some (.cells #[.int .i64 slot, .int .i64 ballot, .int .i64 kind, .int .i64 client, .int .i64 seq, .string text, .slice mo n cap, .int .i64 dest] 276 (0, 0)) := Below.stay b1 (by rw [← hW0]; exact box_at _ _)
  have x1 : W.heap[w.heap.size + 1]? = some (.cells #[.int .i64 0, .int .i64 0, .int .i64 0, .int .i64 0, .int .i64 0, .string ⟨#[]⟩, .slice none 0 0, .int .i64 0] 276 (0, 0)) := by rw [← s0, ← hW]; exact box_at _ _
  have HI := hide (hb.below bW)
  have HN := hide hn
  have HL : Hid (([] : List Int).length + n ≤ 1000000000) := by show _ ≤ _; simp; omega
  have HW : Hid ((w.alloc (.cells #[.int .i64 slot, .int .i64 ballot, .int .i64 kind, .int .i64 client, .int .i64 seq, .string text, .slice mo n cap, .int .i64 dest] 276)).alloc (.cells #[.int .i64 0, .int .i64 0, .int .i64 0, .int .i64 0, .int .i64 0, .string ⟨#[]⟩, .slice none 0 0, .int .i64 0] 276) = W) := by rw [hW0]; exact hW
  have a4 : W.cell? ⟨w.heap.size, 6, none⟩ = some (.slice mo n cap) := (cell_of_block x0).trans rfl
  have BW := hide bW
  have X0 := hide x0
  have X1 := hide x1
  clear hW hW0 s0 b0 b1 bW x0 x1 hb hn
  go_enter Tryz.func280, Tryz.ntmps280
  go_upto_region 1 with fail
  rw [unhide HW]
  go_wp2_with (refine wpList_app rfl (.const (.slice none 0 0)) (.tmp 5) rfl w.heap.size (.slice none 0 0) [] rfl (Ir.nil _ _) mo n cap ms rfl (unhide HN) (unhide HI) (unhide HL) (unhide BW).size ?_)
  intro mv w1 o1 g1
  have b1 : Below W.heap.size W w1 := (Below.refl _ W).grown g1 (Nat.le_refl _) (fun k hk => by simp [Value.ownBlock] at hk)
  have h0 := Below.stay b1 (unhide X0)
  have h1 := Below.stay b1 (unhide X1)
  have B1 := hide (below_far (unhide BW) b1)
  have O1 := hide o1
  have f4 : w1.frozen? ⟨w.heap.size, 6, none⟩ = false := free_of_block h0
  have a4' : w1.cell? ⟨w.heap.size, 6, none⟩ = some (.slice mo n cap) := (cell_of_block h0).trans rfl
  have H0 := hide h0
  have H1 := hide h1
  clear h0 h1 b1 o1 g1 a4 X0 X1 BW HI HL
  obtain ⟨Y, hY⟩ : ∃ Y, w1.setCell ⟨w.heap.size, 6, none⟩ mv = Y := ⟨_, rfl⟩
  have y0 : Y.heap[w.heap.size]? = some (.cells #[.int .i64 slot, .int .i64 ballot, .int .i64 kind, .int .i64 client, .int .i64 seq, .string text, mv, .int .i64 dest] 276 (0, 0)) := by rw [← hY]; exact setCell_block (unhide H0)
  have hkY : ∀ k, k ≠ w.heap.size → Y.heap[k]? = w1.heap[k]? := fun k hk => by rw [← hY]; exact Below.heap_setCell _ _ _ k hk
  have y1 := (hkY (w.heap.size + 1) (by omega)).trans (unhide H1)
  have bY : Below w.heap.size w Y := by rw [← hY]; exact (unhide B1).setCell (p := ⟨w.heap.size, 6, none⟩) (Nat.le_refl _) _
  have oY : Ir w.heap.size Y mv ms := (unhide O1).other hkY (unhide H0) (by decide)
  have k0 : Y.cell? ⟨w.heap.size, 0, none⟩ = some (.int .i64 slot) := (cell_of_block y0).trans rfl
  have k1 : Y.cell? ⟨w.heap.size, 1, none⟩ = some (.int .i64 ballot) := (cell_of_block y0).trans rfl
  have k2 : Y.cell? ⟨w.heap.size, 2, none⟩ = some (.int .i64 kind) := (cell_of_block y0).trans rfl
  have k3 : Y.cell? ⟨w.heap.size, 3, none⟩ = some (.int .i64 client) := (cell_of_block y0).trans rfl
  have k4 : Y.cell? ⟨w.heap.size, 4, none⟩ = some (.int .i64 seq) := (cell_of_block y0).trans rfl
  have k5 : Y.cell? ⟨w.heap.size, 5, none⟩ = some (.string text) := (cell_of_block y0).trans rfl
  have k6 : Y.cell? ⟨w.heap.size, 6, none⟩ = some (mv) := (cell_of_block y0).trans rfl
  have k7 : Y.cell? ⟨w.heap.size, 7, none⟩ = some (.int .i64 dest) := (cell_of_block y0).trans rfl
  have z0 : Y.cell? ⟨w.heap.size + 1, 0, none⟩ = some (.int .i64 0) := (cell_of_block y1).trans rfl
  have z1 : Y.cell? ⟨w.heap.size + 1, 1, none⟩ = some (.int .i64 0) := (cell_of_block y1).trans rfl
  have z2 : Y.cell? ⟨w.heap.size + 1, 2, none⟩ = some (.int .i64 0) := (cell_of_block y1).trans rfl
  have z3 : Y.cell? ⟨w.heap.size + 1, 3, none⟩ = some (.int .i64 0) := (cell_of_block y1).trans rfl
  have z4 : Y.cell? ⟨w.heap.size + 1, 4, none⟩ = some (.int .i64 0) := (cell_of_block y1).trans rfl
  have z5 : Y.cell? ⟨w.heap.size + 1, 5, none⟩ = some (.string ⟨#[]⟩) := (cell_of_block y1).trans rfl
  have z6 : Y.cell? ⟨w.heap.size + 1, 6, none⟩ = some (.slice none 0 0) := (cell_of_block y1).trans rfl
  have z7 : Y.cell? ⟨w.heap.size + 1, 7, none⟩ = some (.int .i64 0) := (cell_of_block y1).trans rfl
  have fz : ∀ i, Y.frozen? ⟨w.heap.size + 1, i, none⟩ = false := fun i => free_of_block y1
  have Y1 := hide y1
  have BY := hide bY
  have OY := hide oY
  have HY := hide hY
  clear y0 y1 bY oY hY hkY H0 H1 O1
  obtain ⟨mo', mcap, rfl, _⟩ := (unhide OY).slice
  rw [unhide HN] at *
  go_upto_region 2 with fail
  rw [unhide HY]
  go_wp2
  obtain ⟨V, hV⟩ : ∃ V : World, V = ((((((((Y.setCell ⟨w.heap.size + 1, 0, none⟩ (.int .i64 slot)).setCell ⟨w.heap.size + 1, 1, none⟩ (.int .i64 ballot)).setCell ⟨w.heap.size + 1, 2, none⟩ (.int .i64 kind)).setCell ⟨w.heap.size + 1, 3, none⟩ (.int .i64 client)).setCell ⟨w.heap.size + 1, 4, none⟩ (.int .i64 seq)).setCell ⟨w.heap.size + 1, 5, none⟩ (.string text)).setCell ⟨w.heap.size + 1, 6, none⟩ (.slice mo' n mcap)).setCell ⟨w.heap.size + 1, 7, none⟩ (.int .i64 dest)) := ⟨_, rfl⟩
  rw [← hV]
  obtain ⟨hh, bV, kV⟩ := eight_end (unhide Y1) (Nat.le_succ _) (unhide BY) V hV
  have d0 : V.cell? ⟨w.heap.size + 1, 0, none⟩ = some (.int .i64 slot) := (cell_of_block hh).trans rfl
  have d1 : V.cell? ⟨w.heap.size + 1, 1, none⟩ = some (.int .i64 ballot) := (cell_of_block hh).trans rfl
  have d2 : V.cell? ⟨w.heap.size + 1, 2, none⟩ = some (.int .i64 kind) := (cell_of_block hh).trans rfl
  have d3 : V.cell? ⟨w.heap.size + 1, 3, none⟩ = some (.int .i64 client) := (cell_of_block hh).trans rfl
  have d4 : V.cell? ⟨w.heap.size + 1, 4, none⟩ = some (.int .i64 seq) := (cell_of_block hh).trans rfl
  have d5 : V.cell? ⟨w.heap.size + 1, 5, none⟩ = some (.string text) := (cell_of_block hh).trans rfl
  have d6 : V.cell? ⟨w.heap.size + 1, 6, none⟩ = some (.slice mo' n mcap) := (cell_of_block hh).trans rfl
  have d7 : V.cell? ⟨w.heap.size + 1, 7, none⟩ = some (.int .i64 dest) := (cell_of_block hh).trans rfl
  refine bodyPost_ret (v := .agg #[.int .i64 slot, .int .i64 ballot, .int .i64 kind, .int .i64 client, .int .i64 seq, .string text, .slice mo' n mcap, .int .i64 dest]) (by simp [results, Tryz.results280, go_sem, d0, d1, d2, d3, d4, d5, d6, d7]) rfl ⟨_, _, rfl, ?_, bV⟩
  exact (unhide OY).other kV (unhide Y1) (by decide)
end Go.Proofs.YtjplhiflemmkfaaGreatDoor.Aa
