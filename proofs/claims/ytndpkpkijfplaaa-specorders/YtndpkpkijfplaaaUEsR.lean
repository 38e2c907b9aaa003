/- Slices of entries that can be read; a row of one's own is one. -/
import Derived.Test.YtndpkpkijfplaaaUBase
namespace Go.Proofs.Ytndpkpkijfplaaa
open Go.RowKit Go.Maps

/-- a slice of entries, in some blocks. -/
def EsR (F : Nat → Prop) (w : World) (ao : Option Addr) (es : List En) : Prop :=
  ∀ (i : Nat) (e : En), es[i]? = some e → ∃ g off mo cap, ao = some ⟨g, off, none⟩ ∧ F g ∧ (∀ (j : Nat) (u : Value), (e.cells (.slice mo e.ms.length cap))[j]? = some u → w.cell? ⟨g, off + i * 6 + j, none⟩ = some u) ∧ InF F w mo e.ms ∧ e.ms.length ≤ 1000000
theorem EsR.kp {F D : Nat → Prop} {w w' : World} {ao : Option Addr} {es : List En} (h : EsR F w ao es) (hk : Kp D w w') (hd : ∀ k, F k → ¬ D k) : EsR F w' ao es := fun i e hi => by
  obtain ⟨g, off, mo, cap, h1, h2, h3, h4, h5⟩ := h i e hi
  exact ⟨g, off, mo, cap, h1, h2, fun j u hj => hk.cell (h3 j u hj) (hd _ h2), h4.kp hk hd, h5⟩
theorem EsR.below {F : Nat → Prop} {w w' : World} {ao : Option Addr} {es : List En} (h : EsR F w ao es) (hb : Below w.heap.size w w') : EsR F w' ao es := h.kp (D := fun _ => False) (Kp.of_below hb) (fun _ _ x => x)
theorem EsR.mono {F G : Nat → Prop} {w : World} {ao : Option Addr} {es : List En} (h : EsR F w ao es) (hg : ∀ k, F k → G k) : EsR G w ao es := fun i e hi => by
  obtain ⟨g, off, mo, cap, h1, h2, h3, h4, h5⟩ := h i e hi
  exact ⟨g, off, mo, cap, h1, hg _ h2, h3, h4.mono hg, h5⟩
theorem EsR.nil (F : Nat → Prop) (w : World) (ao : Option Addr) : EsR F w ao [] := fun i e hi => by simp at hi
theorem EsR.at {F : Nat → Prop} {w : World} {ao : Option Addr} {es : List En} (h : EsR F w ao es) {k : Nat} {e : En} (he : es[k]? = some e) :
    ∃ g off mo cap, ao = some ⟨g, off, none⟩ ∧ w.cell? ⟨g, off + k * 6, none⟩ = some (.int .i64 e.kind) ∧ w.cell? ⟨g, off + k * 6 + 1, none⟩ = some (.int .i64 e.client) ∧ w.cell? ⟨g, off + k * 6 + 2, none⟩ = some (.int .i64 e.seq) ∧ w.cell? ⟨g, off + k * 6 + 3, none⟩ = some (.string e.text) ∧ w.cell? ⟨g, off + k * 6 + 4, none⟩ = some (.slice mo e.ms.length cap) ∧ w.cell? ⟨g, off + k * 6 + 5, none⟩ = some (.int .i64 e.dest) ∧ InF F w mo e.ms ∧ e.ms.length ≤ 1000000 := by
  obtain ⟨g, off, mo, cap, h1, h2, h3, h4, h5⟩ := h k e he
  obtain ⟨k0, k1, k2, k3, k4, k5⟩ := En.six h3
  exact ⟨g, off, mo, cap, h1, k0, k1, k2, k3, k4, k5, h4, h5⟩
theorem ERow.esR {D : Nat → Prop} {w : World} {ao : Option Addr} {n cap : Nat} {es : List En} (h : ERow D w (.slice ao n cap) es) : EsR D w ao es := fun i e hi => by
  obtain ⟨xs, h1, h2, h3⟩ := h
  obtain ⟨mv, k1, k2, k3, k4⟩ := h3 i e hi
  obtain ⟨mo, mc, rfl, _⟩ := k2.slice
  rcases h1.2 with ⟨e1, e2⟩ | ⟨g, cap', cur, e1, e2, e3, _⟩
  · have := (List.getElem?_eq_some_iff.1 hi).1; omega
  · obtain rfl : ao = some ⟨g, 0, none⟩ := by simp only [Value.slice.injEq] at e1; exact e1.1
    refine ⟨g, 0, mo, mc, rfl, h2 g rfl, fun j u hj => ?_, k2.inF.mono (fun k hk => k3 k hk), k4⟩
    have := World.ownsRow.cells (by rw [e1] at h1; exact h1) (g := g) rfl (i * 6 + j) u (k1 j u hj)
    rw [Addr.add_lit] at this
    rw [Nat.add_assoc]; exact this
end Go.Proofs.Ytndpkpkijfplaaa
