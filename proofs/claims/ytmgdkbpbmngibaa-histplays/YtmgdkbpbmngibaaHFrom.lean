/- hist: From: a contract; rows of entries of the call's own. -/
import Derived.Test.YtmgdkbpbmngibaaHRead
import Derived.Test.YtmgdkbpbmngibaaHTwin
import Derived.Test.YtmgdkbpbmngibaaHAdd
namespace Go.Proofs.Ytmgdkbpbmngibaa
open Go.RowKit Go.Maps

/-- a row of entries of the call's own, their members in rows of its own, too. -/
def ERow (N : Nat → Prop) (base : Nat) (w : World) (v : Value) (es : List En) : Prop :=
  ∃ xs, w.ownsRow base 60 6 v es.length xs ∧ ∀ (i : Nat) (e : En), es[i]? = some e → ∃ mv, (∀ (j : Nat) (u : Value), (e.cells mv)[j]? = some u → xs[i * 6 + j]? = some u) ∧ Ir base w mv e.ms ∧ (∀ k, mv.ownBlock = some k → N k) ∧ e.ms.length ≤ 1000000
theorem ERow.nil (N : Nat → Prop) (base : Nat) (w : World) : ERow N base w (.slice none 0 0) [] := ⟨[], ⟨rfl, Or.inl ⟨rfl, rfl⟩⟩, fun i e hi => by simp at hi⟩
theorem ERow.mono {N M : Nat → Prop} {base : Nat} {w : World} {v : Value} {es : List En} (h : ERow N base w v es) (hm : ∀ k, N k → M k) : ERow M base w v es := by
  obtain ⟨xs, h1, h2⟩ := h
  refine ⟨xs, h1, fun i e hi => ?_⟩
  obtain ⟨mv, k1, k2, k3, k4⟩ := h2 i e hi
  exact ⟨mv, k1, k2, fun k x => hm k (k3 k x), k4⟩
theorem ERow.below {N : Nat → Prop} {base : Nat} {w w' : World} {v : Value} {es : List En} (h : ERow N base w v es) (hb : Below w.heap.size w w') : ERow N base w' v es := by
  obtain ⟨xs, h1, h2⟩ := h
  refine ⟨xs, own_below h1 hb, fun i e hi => ?_⟩
  obtain ⟨mv, k1, k2, k3, k4⟩ := h2 i e hi
  exact ⟨mv, k1, k2.below hb, k3, k4⟩
/-- a row of numbers grows. -/
theorem ERow.grownI {N : Nat → Prop} {base b2 : Nat} {w w' : World} {v tv : Value} {es : List En} {ys : List Int} (h : ERow N base w v es) (ht : Ir b2 w tv ys) (hn : ∀ k, tv.ownBlock = some k → ¬ N k) (hg : w.grownBy w' tv.ownBlock) : ERow N base w' v es := by
  obtain ⟨xs, h1, h2⟩ := h
  refine ⟨xs, own_kept h1 fun k hk => hg.block k (h1.lt k hk).2 (fun x => ?_), fun i e hi => ?_⟩
  · obtain ⟨_, cur, fr, hc⟩ := own_tag h1 k hk
    obtain ⟨_, cur', fr', hc'⟩ := own_tag ht k x.symm
    rw [hc] at hc'; cases hc'
  · obtain ⟨mv, k1, k2, k3, k4⟩ := h2 i e hi
    exact ⟨mv, k1, own_kept k2 fun k hk => hg.block k (k2.lt k hk).2 (fun x => hn k x.symm (k3 k hk)), k3, k4⟩
theorem ERow.slice {N : Nat → Prop} {base : Nat} {w : World} {v : Value} {es : List En} (h : ERow N base w v es) : ∃ ao cap, v = .slice ao es.length cap ∧ es.length ≤ cap ∧ cap ≤ maxLen := by
  obtain ⟨xs, h1, _⟩ := h
  rcases h1.2 with ⟨e1, e2⟩ | ⟨g, cap, cur, e1, _, _, e3, e4, _⟩
  · exact ⟨none, 0, by rw [e2]; exact e1, by omega, by decide⟩
  · exact ⟨_, cap, e1, e3, e4⟩
/-- its entries can be read. -/
theorem ERow.esR {N : Nat → Prop} {base : Nat} {w : World} {ao : Option Addr} {n cap : Nat} {es : List En} (h : ERow N base w (.slice ao n cap) es) : EsR (fun k => base ≤ k ∧ k < w.heap.size) w ao es := fun i e hi => by
  obtain ⟨xs, h1, h2⟩ := h
  obtain ⟨mv, k1, k2, k3, k4⟩ := h2 i e hi
  obtain ⟨mo, mc, rfl, _⟩ := k2.slice
  rcases h1.2 with ⟨e1, e2⟩ | ⟨g, cap', cur, e1, e2, e3, _⟩
  · have := (List.getElem?_eq_some_iff.1 hi).1; omega
  · obtain rfl : ao = some ⟨g, 0, none⟩ := by simp only [Value.slice.injEq] at e1; exact e1.1
    refine ⟨g, 0, mo, mc, rfl, ⟨e2, heap_lt e3⟩, fun j u hj => ?_, k2.inF.mono (fun k hk => k2.lt k hk), k4⟩
    have := World.ownsRow.cells (by rw [e1] at h1; exact h1) (g := g) rfl (i * 6 + j) u (k1 j u hj)
    rw [Addr.add_lit] at this
    rw [Nat.add_assoc]; exact this
theorem Try.infoEn : (Try.prog.info? 60).map (fun i => (i.zero, i.size, i.bytes)) = some (some (.agg #[.int .i64 0, .int .i64 0, .int .i64 0, .string ⟨#[]⟩, .slice none 0 0, .int .i64 0]), 6, 72) := by kernel_rfl
/-- one entry more. -/
theorem run_pushEn {N : Nat → Prop} {base : Nat} {w : World} {v : Value} {es : List En} (h : ERow N base w v es) (ty : TypeId) (nb : Nat) (e : En) (mv : Value) (hx : w.heap[nb]? = some (.cells (e.cells mv).toArray 60 (0, 0))) (hm : Ir base w mv e.ms) (hmn : ∀ k, mv.ownBlock = some k → N k) (hml : e.ms.length ≤ 1000000) (hl : es.length ≤ 1000000) (hb : base ≤ w.heap.size) :
    ∃ v' w', (Builtin.append_ #[30, 30] ty #[v, .slice (some ⟨nb, 0, none⟩) 1 1]).run Try.prog w = .ok v' w' ∧ ERow N base w' v' (es ++ [e]) ∧ w.grownBy w' v.ownBlock ∧ (v'.ownBlock = v.ownBlock ∨ v'.ownBlock = some w.heap.size) := by
  obtain ⟨i0, hi, hz0, hz1, hz2⟩ := info_parts Try.infoEn
  obtain ⟨xs, h1, h3⟩ := h
  obtain ⟨v', w', hr, o', g', _, hat⟩ := run_append_own_at (P := Try.prog) w base 30 ty 60 i0 _ 6 72 Try.underlying30 hi hz0 hz1 hz2 rfl (by decide) v es.length xs h1 ⟨nb, 0, none⟩ 1 1 (e.cells mv) rfl
    (fun j u hj => by rw [Addr.add_lit, Nat.zero_add, cell_of_block hx]; simpa using hj) (En.cells_one e hm.oneCell) (by unfold maxLen; omega) (by omega) hb
  have keep : ∀ (u : Value) (ys : List Int), Ir base w u ys → Ir base w' u ys := fun u ys hu => own_kept hu fun k hk => g'.block k (hu.lt k hk).2 (fun x => by
    obtain ⟨_, cur, fr, hc⟩ := own_tag h1 k x.symm
    obtain ⟨_, cur', fr', hc'⟩ := own_tag hu k hk
    rw [hc] at hc'; cases hc')
  refine ⟨v', w', hr, ⟨_, by rw [List.length_append]; exact o', fun i q hq => ?_⟩, g', hat⟩
  have hxl : xs.length = es.length * 6 := h1.1
  by_cases he : i < es.length
  · rw [List.getElem?_append_left he] at hq
    obtain ⟨u, u1, u2, u3, u4⟩ := h3 i q hq
    refine ⟨u, fun j c hj => ?_, keep u _ u2, u3, u4⟩
    have hj6 : j < 6 := (List.getElem?_eq_some_iff.1 hj).1
    rw [List.getElem?_append_left (by omega)]; exact u1 j c hj
  · rw [List.getElem?_append_right (by omega)] at hq
    have hi0 : i = es.length := by have := (List.getElem?_eq_some_iff.1 hq).1; simp at this; omega
    subst hi0
    simp at hq
    subst hq
    refine ⟨mv, fun j c hj => ?_, keep mv _ hm, hmn, hml⟩
    rw [List.getElem?_append_right (by omega), show es.length * 6 + j - xs.length = j by omega]; exact hj
theorem wpList_pushEn {w : World} {ops : Array Oper} {rest : List Oper} {o : Oper} {a : Act} {Q : Exit → Act → World → Prop} (hgd : o.guard = none) (s x : Operand)
    (ho : o.op = .call { callee := .builtin .append, args := #[s, x], argTypes := #[30, 30] }) (N : Nat → Prop) (base : Nat) (v : Value) (es : List En) (hs : a.eval s = v) (h : ERow N base w v es)
    (nb : Nat) (e : En) (mv : Value) (hx : a.eval x = .slice (some ⟨nb, 0, none⟩) 1 1) (hc : w.heap[nb]? = some (.cells (e.cells mv).toArray 60 (0, 0))) (hm : Ir base w mv e.ms) (hmn : ∀ k, mv.ownBlock = some k → N k) (hml : e.ms.length ≤ 1000000) (hl : es.length ≤ 1000000) (hb : base ≤ w.heap.size)
    (hk : ∀ v' w', ERow N base w' v' (es ++ [e]) → w.grownBy w' v.ownBlock → (v'.ownBlock = v.ownBlock ∨ v'.ownBlock = some w.heap.size) → wpList Try.prog ops Q rest (a.put o.dst v') w') : wpList Try.prog ops Q (o :: rest) a w := by
  refine wpList_plain hgd fun K hK => ?_
  obtain ⟨v', w', hr, h1, h2, h3⟩ := run_pushEn h o.type nb e mv hc hm hmn hml hl hb
  unfold Oper.wp execOp
  simp only [ho, resolve, invoke, builtin, Sem.run_bind, Sem.run_pure, Result.andThen_ok, List.map_toArray, List.map_cons, List.map_nil, hs, hx, hr]
  exact hK _ _ (hk v' w' h1 h2 h3)
/-- append of numbers, and where the new row lies. -/
theorem wpList_appAt {w : World} {ops : Array Oper} {rest : List Oper} {o : Oper} {a : Act} {Q : Exit → Act → World → Prop} (hgd : o.guard = none) (s x : Operand)
    (ho : o.op = .call { callee := .builtin .append, args := #[s, x], argTypes := #[29, 29] }) (base : Nat) (v : Value) (xs : List Int) (hs : a.eval s = v) (hown : Ir base w v xs)
    (nb : Nat) (y : Int) (hx : a.eval x = .slice (some ⟨nb, 0, none⟩) 1 1) (hy : w.cell? ⟨nb, 0, none⟩ = some (.int .i64 y)) (hl : xs.length ≤ 1000000) (hb : base ≤ w.heap.size)
    (h : ∀ v' w', Ir base w' v' (xs ++ [y]) → w.grownBy w' v.ownBlock → (v'.ownBlock = v.ownBlock ∨ v'.ownBlock = some w.heap.size) → wpList Try.prog ops Q rest (a.put o.dst v') w') : wpList Try.prog ops Q (o :: rest) a w := by
  obtain ⟨i0, hi0, hz0, hz1, hz2⟩ := info_parts Try.infoI
  refine wpList_plain hgd fun K hK => ?_
  obtain ⟨v', w', hr, o', g', _, hat⟩ := run_append_own_at (P := Try.prog) w base 29 o.type 3 i0 _ 1 8 Try.underlying29 hi0 hz0 hz1 hz2 rfl (by decide) v xs.length (i64s xs) hown ⟨nb, 0, none⟩ 1 1 [.int .i64 y] rfl
    (fun j u hj => by
      have hj0 : j = 0 := by have := (List.getElem?_eq_some_iff.1 hj).1; simp at this; omega
      subst hj0
      simp at hj; subst hj
      rw [Addr.add_lit]; exact hy)
    (fun u hu => by simp at hu; subst hu; rfl) (by unfold maxLen; omega) (by omega) hb
  have h1 : Ir base w' v' (xs ++ [y]) := by
    unfold Ir
    rw [List.length_append, i64s_append]; exact o'
  unfold Oper.wp execOp
  simp only [ho, resolve, invoke, builtin, Sem.run_bind, Sem.run_pure, Result.andThen_ok, List.map_toArray, List.map_cons, List.map_nil, hs, hx, hr]
  exact hK _ _ (h v' w' h1 g' hat)
end Go.Proofs.Ytmgdkbpbmngibaa
