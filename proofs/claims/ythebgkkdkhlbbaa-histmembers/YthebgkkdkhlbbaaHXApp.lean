/- The document's own log: Append: a contract. -/
import Derived.Test.YthebgkkdkhlbbaaHXRef
import Derived.Test.YthebgkkdkhlbbaaHApp
import Derived.Deep.RegionLaw
namespace Go.Proofs.Ythebgkkdkhlbbaa
open Go.RowKit Go.Maps

theorem XRow.keep {base : Nat} {w w' : World} {v : Value} {es : List En} (h : XRow base w v es) (hk : ∀ k, v.ownBlock = some k → w'.heap[k]? = w.heap[k]?) (hb : Below base w w') : XRow base w' v es := by
  obtain ⟨xs, h1, h2⟩ := h
  refine ⟨xs, own_kept h1 hk, fun i e hi => ?_⟩
  obtain ⟨mo, cap, k1, k2, k3⟩ := h2 i e hi
  refine ⟨mo, cap, k1, fun j hj => ?_, k3⟩
  obtain ⟨a, a1, a2, a3⟩ := k2 j hj
  exact ⟨a, a1, a2, by rw [hb.cell (by rw [add_block]; exact a2)]; exact a3⟩
theorem XRow.tag {base : Nat} {w : World} {v : Value} {es : List En} (h : XRow base w v es) : ∀ k, v.ownBlock = some k → base ≤ k ∧ k < w.heap.size ∧ ∃ cur fr, w.heap[k]? = some (.cells cur 60 fr) := fun k hk => by
  obtain ⟨xs, h1, _⟩ := h
  exact ⟨(h1.lt k hk).1, (h1.lt k hk).2, (own_tag h1 k hk).2⟩
/-- entries to be laid into the document's log: their members lie in memory that came in. -/
def XEs (F : Nat → Prop) (base : Nat) (w : World) (ao : Option Addr) (es : List En) : Prop :=
  ∀ (i : Nat) (e : En), es[i]? = some e → ∃ g off mo cap, ao = some ⟨g, off, none⟩ ∧ F g ∧ (∀ (j : Nat) (u : Value), (e.cells (.slice mo e.ms.length cap))[j]? = some u → w.cell? ⟨g, off + i * 6 + j, none⟩ = some u) ∧ InF (fun k => k < base) w mo e.ms ∧ e.ms.length ≤ 1000000
theorem XEs.kp {F D : Nat → Prop} {base : Nat} {w w' : World} {ao : Option Addr} {es : List En} (h : XEs F base w ao es) (hk : Kp D w w') (hd : ∀ k, F k → ¬ D k) (hb : ∀ k, D k → base ≤ k) : XEs F base w' ao es := fun i e hi => by
  obtain ⟨g, off, mo, cap, h1, h2, h3, h4, h5⟩ := h i e hi
  exact ⟨g, off, mo, cap, h1, h2, fun j u hj => hk.cell (h3 j u hj) (hd _ h2), h4.kp hk (fun k hk' x => by have := hb k x; omega), h5⟩
theorem EsR.xes {base : Nat} {w : World} {ao : Option Addr} {es : List En} (h : EsR (fun k => k < base) w ao es) : XEs (fun k => k < base) base w ao es := h
theorem xes_lit (base : Nat) (w : World) (es : List En) (hm : ∀ e ∈ es, e.ms = []) (cs : Array Value) (hc : cs.toList = es.flatMap fun e => e.cells (.slice none 0 0)) (flat : ∀ (i : Nat) (e : En) (j : Nat) (u : Value), es[i]? = some e → (e.cells (.slice none 0 0))[j]? = some u → (es.flatMap fun e => e.cells (.slice none 0 0))[i * 6 + j]? = some u) : XEs (fun k => k = w.heap.size) base (w.alloc (.cells cs 60)) (some ⟨w.heap.size, 0, none⟩) es := fun i e hi => by
  have h0 := hm e (List.mem_of_getElem? hi)
  refine ⟨w.heap.size, 0, none, 0, rfl, rfl, fun j u hj => ?_, by rw [h0]; exact InF.nil _ _ _, by rw [h0]; simp⟩
  rw [h0] at hj
  rw [cell_of_block (box_at w _), ← Array.getElem?_toList, hc, Nat.zero_add]
  exact flat i e j u hi hj
/-- one entry more. -/
theorem run_pushX {base : Nat} {w : World} {v : Value} {es : List En} (h : XRow base w v es) (ty : TypeId) (nb : Nat) (e : En) (mo : Option Addr) (mc : Nat) (hx : w.heap[nb]? = some (.cells (e.cells (.slice mo e.ms.length mc)).toArray 60 (0, 0))) (hm : InF (fun k => k < base) w mo e.ms) (hml : e.ms.length ≤ 1000000) (hl : es.length ≤ 1000000) (hb : base ≤ w.heap.size) :
    ∃ v' w', (Builtin.append_ #[30, 30] ty #[v, .slice (some ⟨nb, 0, none⟩) 1 1]).run Try.prog w = .ok v' w' ∧ XRow base w' v' (es ++ [e]) ∧ w.grownBy w' v.ownBlock ∧ (v'.ownBlock = v.ownBlock ∨ v'.ownBlock = some w.heap.size) := by
  obtain ⟨i0, hi, hz0, hz1, hz2⟩ := info_parts Try.infoEn
  obtain ⟨xs, h1, h3⟩ := h
  obtain ⟨v', w', hr, o', g', _, hat⟩ := run_append_own_at (P := Try.prog) w base 30 ty 60 i0 _ 6 72 Try.underlying30 hi hz0 hz1 hz2 rfl (by decide) v es.length xs h1 ⟨nb, 0, none⟩ 1 1 (e.cells (.slice mo e.ms.length mc)) rfl
    (fun j u hj => by rw [Addr.add_lit, Nat.zero_add, cell_of_block hx]; simpa using hj) (En.cells_one e rfl) (by unfold maxLen; omega) (by omega) hb
  have bb : Below base w w' := (Below.refl _ _).grown g' hb (fun k hk => (h1.lt k hk).1)
  have keep : ∀ (u : Option Addr) (ys : List Int), InF (fun k => k < base) w u ys → InF (fun k => k < base) w' u ys := fun u ys hu j hj => by
    obtain ⟨a, a1, a2, a3⟩ := hu j hj
    exact ⟨a, a1, a2, by rw [bb.cell (by rw [add_block]; exact a2)]; exact a3⟩
  refine ⟨v', w', hr, ⟨_, by rw [List.length_append]; exact o', fun i q hq => ?_⟩, g', hat⟩
  have hxl : xs.length = es.length * 6 := h1.1
  by_cases he : i < es.length
  · rw [List.getElem?_append_left he] at hq
    obtain ⟨u, c, u1, u2, u4⟩ := h3 i q hq
    refine ⟨u, c, fun j z hj => ?_, keep u _ u2, u4⟩
    have hj6 : j < 6 := (List.getElem?_eq_some_iff.1 hj).1
    rw [List.getElem?_append_left (by omega)]; exact u1 j z hj
  · rw [List.getElem?_append_right (by omega)] at hq
    have hi0 : i = es.length := by have := (List.getElem?_eq_some_iff.1 hq).1; simp at this; omega
    subst hi0
    simp at hq
    subst hq
    refine ⟨mo, mc, fun j c hj => ?_, keep mo _ hm, hml⟩
    rw [List.getElem?_append_right (by omega), show es.length * 6 + j - xs.length = j by omega]; exact hj
theorem wp_pushX {w : World} {o : Oper} {a : Act} {K : Act → World → Prop} {Q : Exit → Act → World → Prop} (s x : Operand)
    (ho : o.op = .call { callee := .builtin .append, args := #[s, x], argTypes := #[30, 30] }) (base : Nat) (v : Value) (es : List En) (hs : a.eval s = v) (h : XRow base w v es)
    (nb : Nat) (e : En) (mo : Option Addr) (mc : Nat) (hx : a.eval x = .slice (some ⟨nb, 0, none⟩) 1 1) (hc : w.heap[nb]? = some (.cells (e.cells (.slice mo e.ms.length mc)).toArray 60 (0, 0))) (hm : InF (fun k => k < base) w mo e.ms) (hml : e.ms.length ≤ 1000000) (hl : es.length ≤ 1000000) (hb : base ≤ w.heap.size)
    (hk : ∀ v' w', XRow base w' v' (es ++ [e]) → w.grownBy w' v.ownBlock → (v'.ownBlock = v.ownBlock ∨ v'.ownBlock = some w.heap.size) → K (a.put o.dst v') w') : Oper.wp Try.prog o a w K Q := by
  obtain ⟨v', w', hr, h1, h2, h3⟩ := run_pushX h o.type nb e mo mc hc hm hml hl hb
  unfold Oper.wp execOp
  simp only [ho, resolve, invoke, builtin, Sem.run_bind, Sem.run_pure, Result.andThen_ok, List.map_toArray, List.map_cons, List.map_nil, hs, hx, hr]
  exact hk v' w' h1 h2 h3
theorem step_appE {w : World} {ops : Array Oper} {o : Oper} {a : Act} {K : Act → World → Prop} {Q : Exit → Act → World → Prop} {E : Prop} (s x : Operand) (_ho : o.op = .call { callee := .builtin .append, args := #[s, x], argTypes := #[30, 30] }) (hg : o.guard = none) (h : Oper.wp Try.prog o a w K Q) :
    if Region.wanted o (yielded ops a.tmps) = true then Oper.wp Try.prog o a w K Q else E := step_on hg h
end Go.Proofs.Ythebgkkdkhlbbaa
