/- What a round of TapePlays carries: two tapes, the call's bytes, the call. -/
import Derived.Test.YtnohkbekljfehaaDoorTX3
namespace Go.Proofs.YtnohkbekljfehaaDoor
open Go.RowKit

/-- a row of the call's own lies apart from a tape. -/
def Apart (v : Value) (p : Nat) (q : Option Nat) : Prop := ∀ k, v.ownBlock = some k → k ≠ p ∧ q ≠ some k
theorem Apart.foot {v : Value} {p : Nat} {q : Option Nat} (h : Apart v p q) : ∀ k, v.ownBlock = some k → ¬ foot p q k := fun k hk hf => by
  rcases hf with hf | hf
  · exact (h k hk).1 hf
  · exact (h k hk).2 hf
theorem Apart.fresh {base : Nat} {w : World} {v : Value} {bs : List Nat} {p : Nat} {q q' : Option Nat} (h : Apart v p q) (ho : Own base w v bs) (hf : Fresh w q q') : Apart v p q' := fun k hk =>
  ⟨(h k hk).1, fun e => by
    rcases hf k e with h1 | h1
    · exact (h k hk).2 h1
    · have := (ho.1.lt k hk).2; omega⟩
theorem Apart.moved {base : Nat} {w : World} {v v' : Value} {p : Nat} {q : Option Nat} {s : St} (h : Apart v p q) (ht : Tp base w p q s) (hat : v'.ownBlock = v.ownBlock ∨ v'.ownBlock = some w.heap.size) : Apart v' p q := fun k hk => by
  rcases hat with e | e
  · exact h k (e ▸ hk)
  · rw [e] at hk
    cases hk
    refine ⟨fun e1 => by have := ht.lt.2.1; omega, fun e1 => by have := (ht.lt.2.2 _ e1).2; omega⟩
theorem Apart.new {base : Nat} {w w' : World} {v : Value} {bs : List Nat} {p : Nat} {q : Option Nat} {s : St} (ht : Tp base w p q s) (ho : Own w.heap.size w' v bs) : Apart v p q := fun k hk => by
  have h1 := (ho.1.lt k hk).1
  exact ⟨fun e1 => by have := ht.lt.2.1; omega, fun e1 => by have := (ht.lt.2.2 _ e1).2; omega⟩

theorem XTp.mono {base base' : Nat} {w : World} {p : Nat} {q : Option Nat} {s : St} (h : XTp base w p q s) (hb : base' ≤ base) : XTp base' w p q s := by
  obtain ⟨v, L, h0, h1, h2, h3, h4, h5⟩ := h
  exact ⟨v, L, h0, h1, Nat.le_trans hb h2, h3, h4.mono hb, h5⟩
/-- the two tapes share nothing. -/
structure Sep (p : Nat) (q : Option Nat) (px : Nat) (qx : Option Nat) : Prop where
  pp : p ≠ px
  qp : q ≠ some px
  xp : qx ≠ some p
  qq : ∀ k, q = some k → qx ≠ some k
theorem Sep.freshT {w : World} {p : Nat} {q q' : Option Nat} {px : Nat} {qx : Option Nat} (h : Sep p q px qx) (hf : Fresh w q q') (h1 : px < w.heap.size) (h2 : ∀ k, qx = some k → k < w.heap.size) : Sep p q' px qx :=
  ⟨h.pp, fun e => by rcases hf _ e with h3 | h3; exact h.qp h3; omega, h.xp, fun k hk e => by rcases hf _ hk with h3 | h3; exact h.qq k h3 e; have := h2 k e; omega⟩
theorem Sep.freshX {w : World} {p : Nat} {q qx' : Option Nat} {px : Nat} {qx : Option Nat} (h : Sep p q px qx) (hf : Fresh w qx qx') (h1 : p < w.heap.size) (h2 : ∀ k, q = some k → k < w.heap.size) : Sep p q px qx' :=
  ⟨h.pp, h.qp, fun e => by rcases hf _ e with h3 | h3; exact h.xp h3; omega, fun k hk e => by rcases hf _ e with h3 | h3; exact h.qq k hk h3; have := h2 k hk; omega⟩

/-- both tapes, one state. -/
structure Both (base : Nat) (w : World) (p : Nat) (q : Option Nat) (px : Nat) (qx : Option Nat) (s : St) : Prop where
  t : Tp base w p q s
  x : XTp base w px qx s
  sep : Sep p q px qx
theorem Both.below {base : Nat} {w w' : World} {p : Nat} {q : Option Nat} {px : Nat} {qx : Option Nat} {s : St} (h : Both base w p q px qx s) (hb : Below w.heap.size w w') : Both base w' p q px qx s := ⟨h.t.below hb, h.x.below hb, h.sep⟩
/-- other blocks turn. -/
theorem Both.kept {base b : Nat} {f : Nat → Prop} {w w' : World} {p : Nat} {q : Option Nat} {px : Nat} {qx : Option Nat} {s : St} (h : Both base w p q px qx s) (hk : Kept b f w w') (h1 : ¬ f p) (h2 : ∀ k, q = some k → ¬ f k) (h3 : ¬ f px) (h4 : ∀ k, qx = some k → ¬ f k) : Both base w' p q px qx s :=
  ⟨h.t.kept hk h1 h2, h.x.kept hk h3 h4, h.sep⟩
/-- the tape turns, the reference's stays. -/
theorem x_stays {base b : Nat} {w w' : World} {p : Nat} {q : Option Nat} {px : Nat} {qx : Option Nat} {s : St} (h : XTp base w px qx s) (hs : Sep p q px qx) (hk : Kept b (foot p q) w w') : XTp base w' px qx s :=
  h.kept hk (fun e => by rcases e with e | e; exact hs.pp e.symm; exact hs.qp e) (fun k hk e => by rcases e with e | e; exact hs.xp (e ▸ hk); exact hs.qq k e hk)
theorem t_stays {base b : Nat} {w w' : World} {p : Nat} {q : Option Nat} {px : Nat} {qx : Option Nat} {s : St} (h : Tp base w p q s) (hs : Sep p q px qx) (hk : Kept b (fun k => k = px) w w') : Tp base w' p q s :=
  h.kept hk (fun e => hs.pp e) (fun _k hk e => hs.qp (e ▸ hk))


theorem own_bytes {base : Nat} {w : World} {ao : Option Addr} {n cap : Nat} {bs : List Nat} (h : Own base w (.slice ao n cap) bs) : Bytes w ao bs ∧ (ao = none → cap = 0) := by
  obtain ⟨ao', cap', e, _, _, h1, h2, _⟩ := h.slice
  simp only [Value.slice.injEq] at e
  obtain ⟨rfl, _, rfl⟩ := e
  exact ⟨h1, h2⟩
/-- what a round carries. -/
structure Rd (base : Nat) (W w : World) (p : Nat) (q : Option Nat) (px : Nat) (qx : Option Nat) (s sx : St) (m : Value) (b : List Nat) (bx : Nat) (cs : Array Value) : Prop where
  t : Tp base w p q s
  x : XTp base w px qx sx
  sep : Sep p q px qx
  own : Own base w m b
  ap : Apart m p q
  apx : Apart m px qx
  box : w.heap[bx]? = some (.cells cs 33 (0, 0))
  b1 : bx ≠ p
  b2 : bx ≠ px
  b3 : ∀ k, q = some k → k ≠ bx
  b4 : ∀ k, qx = some k → k ≠ bx
  bm : ∀ k, m.ownBlock = some k → k ≠ bx
  below : Below W.heap.size W w
  size : base ≤ w.heap.size
section
variable {base : Nat} {W w w' : World} {p : Nat} {q q' : Option Nat} {px : Nat} {qx qx' : Option Nat} {s s' sx sx' : St} {m : Value} {b : List Nat} {bx : Nat} {cs : Array Value}
theorem Rd.later (h : Rd base W w p q px qx s sx m b bx cs) (hb : Below w.heap.size w w') : Rd base W w' p q px qx s sx m b bx cs :=
  ⟨h.t.below hb, h.x.below hb, h.sep, ⟨own_below h.own.1 hb, h.own.2⟩, h.ap, h.apx, by rw [hb.block bx (blk_lt' h.box)]; exact h.box, h.b1, h.b2, h.b3, h.b4, h.bm, h.below.trans (hb.mono h.below.size), Nat.le_trans h.size hb.size⟩
theorem Rd.turnT (h : Rd base W w p q px qx s sx m b bx cs) (hW : W.heap.size ≤ base) (t : Tp base w' p q' s') (k : Kept base (foot p q) w w') (f : Fresh w q q') : Rd base W w' p q' px qx s' sx m b bx cs :=
  ⟨t, x_stays h.x h.sep k, h.sep.freshT f h.x.lt.2.1 (fun j hj => (h.x.lt.2.2 j hj).2), h.own.kept k h.ap.foot, h.ap.fresh h.own f, h.apx,
   by rw [k.2 bx (blk_lt' h.box) (fun e => by rcases e with e | e; exact h.b1 e; exact h.b3 bx e rfl)]; exact h.box, h.b1, h.b2,
   fun j hj e => by rcases f j hj with h1 | h1; exact h.b3 j h1 e; have := blk_lt' h.box; omega, h.b4, h.bm, h.below.trans (k.1.mono hW), Nat.le_trans h.size k.size⟩
theorem Rd.turnX (h : Rd base W w p q px qx s sx m b bx cs) (hW : W.heap.size ≤ base) (x : XTp base w' px qx' sx') (k : Kept base (fun k => k = px) w w') (f : Fresh w qx qx') : Rd base W w' p q px qx' s sx' m b bx cs :=
  ⟨t_stays h.t h.sep k, x, h.sep.freshX f h.t.lt.2.1 (fun j hj => (h.t.lt.2.2 j hj).2), h.own.kept k (fun j hj e => (h.apx j hj).1 e), h.ap, h.apx.fresh h.own f,
   by rw [k.2 bx (blk_lt' h.box) (fun e => h.b2 e)]; exact h.box, h.b1, h.b2, h.b3,
   fun j hj e => by rcases f j hj with h1 | h1; exact h.b4 j h1 e; have := blk_lt' h.box; omega, h.bm, h.below.trans (k.1.mono hW), Nat.le_trans h.size k.size⟩
end
/-- a byte of the call's own row is turned. -/
theorem Rd.store {base : Nat} {W w : World} {p : Nat} {q : Option Nat} {px : Nat} {qx : Option Nat} {s sx : St} {g l cap : Nat} {b : List Nat} {bx : Nat} {cs : Array Value} (h : Rd base W w p q px qx s sx (.slice (some ⟨g, 0, none⟩) l cap) b bx cs) (hW : W.heap.size ≤ base) (hl : b.length = l) (j v : Nat) (hv : v < 256) :
    Rd base W (w.setCell ⟨g, j, none⟩ (.int .u8 (v : Int))) p q px qx s sx (.slice (some ⟨g, 0, none⟩) l cap) (b.set j v) bx cs := by
  have how : w.ownsRow base 5 1 (.slice (some ⟨g, 0, none⟩) l cap) l (u8s b) := by have h1 := h.own.1; rw [hl] at h1; exact h1
  have hg := (how.lt g rfl).1
  have k : Kept base (fun k => k = g) w (w.setCell ⟨g, j, none⟩ (.int .u8 (v : Int))) := (Kept.refl base (fun k => k = g) w).setCell (p := ⟨g, j, none⟩) hg rfl _
  have a1 := h.ap g rfl
  have a2 := h.apx g rfl
  refine ⟨h.t.kept k (fun e => a1.1 e.symm) (fun j hj e => a1.2 (e ▸ hj)), h.x.kept k (fun e => a2.1 e.symm) (fun j hj e => a2.2 (e ▸ hj)), h.sep, ⟨?_, ?_⟩, h.ap, h.apx,
    by rw [k.2 bx (blk_lt' h.box) (fun e => h.bm g rfl e.symm)]; exact h.box, h.b1, h.b2, h.b3, h.b4, h.bm, h.below.trans (k.1.mono hW), Nat.le_trans h.size k.size⟩
  · have e : (u8s b).set j (.int .u8 (v : Int)) = u8s (b.set j v) := by rw [u8s, u8s, List.map_set]
    rw [List.length_set, hl, ← e]; exact (how.stored j _).1
  · intro y hy
    rcases List.mem_or_eq_of_mem_set hy with h1 | h1
    · exact h.own.2 y h1
    · omega
theorem begin_ops (s : St) (n : Nat) : (s.begin n).2.ops ≤ s.ops + 1 ∧ ((s.begin n).2.left ≤ s.left ∨ (s.begin n).2.left ≤ 0) := by
  unfold St.begin
  split
  · exact ⟨by simp, Or.inl (by simp)⟩
  split
  · exact ⟨by simp, Or.inl (by simp)⟩
  split
  · exact ⟨by simp, Or.inr (by simp)⟩
  split
  · exact ⟨by simp, Or.inl (by simp only; omega)⟩
  · exact ⟨by simp, Or.inl (by simp)⟩
theorem append_ops (s : St) (b : List Nat) : (s.append b).2.ops ≤ s.ops + 1 ∧ ((s.append b).2.left ≤ s.left ∨ (s.append b).2.left ≤ 0) := by
  have h := begin_ops s (s.bs.length + b.length)
  unfold St.append
  simp only
  split <;> exact h
theorem sync_ops (s : St) : s.sync.2.ops ≤ s.ops + 1 ∧ (s.sync.2.left ≤ s.left ∨ s.sync.2.left ≤ 0) := by
  have h := begin_ops s s.bs.length
  unfold St.sync
  simp only
  split <;> exact h
theorem replace_ops (s : St) (b : List Nat) : (s.replace b).2.ops ≤ s.ops + 1 ∧ ((s.replace b).2.left ≤ s.left ∨ (s.replace b).2.left ≤ 0) := by
  have h := begin_ops s b.length
  unfold St.replace
  simp only
  split <;> exact h
end Go.Proofs.YtnohkbekljfehaaDoor
