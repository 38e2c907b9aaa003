/- Rows laid behind rows, at a step of a region: numbers, entries. -/
import Derived.Test.YthebgkkdkhlbbaaHXApp2
namespace Go.Proofs.Ythebgkkdkhlbbaa
open Go.RowKit Go.Maps

theorem run_catI {w : World} {base : Nat} {v : Value} {xs : List Int} (hown : Ir base w v xs) (ty : TypeId) (ao : Option Addr) (m c : Nat) (ys : List Int) (hm : ys.length = m) (hy : IntsR w ao ys) (hl : xs.length + m ≤ 1000000000) (hb : base ≤ w.heap.size) :
    ∃ v' w', (Builtin.append_ #[29, 29] ty #[v, .slice ao m c]).run Try.prog w = .ok v' w' ∧ Ir base w' v' (xs ++ ys) ∧ w.grownBy w' v.ownBlock ∧ (v'.ownBlock = v.ownBlock ∨ v'.ownBlock = some w.heap.size) := by
  obtain ⟨i0, hi0, hz0, hz1, hz2⟩ := info_parts Try.infoI
  cases ao with
  | none =>
    obtain rfl := hy.none_nil
    simp only [List.length_nil] at hm
    subst hm
    obtain ⟨av, cv, rfl, _, hc, _⟩ := hown.slice
    have hr := run_append_nothing (P := Try.prog) w 29 29 ty 3 i0 Try.underlying29 hi0 av xs.length cv hc (.slice none 0 c) (Src.ofNil w Try.underlying29 c)
    exact ⟨_, _, hr, by simpa using hown, ⟨rfl, rfl, rfl, Nat.le_refl _, fun _ _ _ => rfl⟩, Or.inl rfl⟩
  | some ad =>
    obtain ⟨v', w', hr, o', g', _, hat⟩ := run_append_own_at (P := Try.prog) w base 29 ty 3 i0 _ 1 8 Try.underlying29 hi0 hz0 hz1 hz2 rfl (by decide) v xs.length (i64s xs) hown ad m c (i64s ys) (by rw [i64s, List.length_map, hm]; omega)
      (fun j u hj => by
        rw [i64s, List.getElem?_map] at hj
        cases hq : ys[j]? with
        | none => rw [hq] at hj; simp at hj
        | some y =>
          rw [hq] at hj; simp at hj; subst hj
          obtain ⟨a, e, hcell⟩ := hy j (List.getElem?_eq_some_iff.1 hq).1
          cases e
          rw [hcell, List.getD_eq_getElem?_getD, hq]; rfl)
      (i64s_one ys) (by unfold maxLen; omega) (by omega) hb
    refine ⟨v', w', hr, ?_, g', hat⟩
    unfold Ir
    rw [List.length_append, hm, i64s_append]; exact o'
theorem wp_catI {w : World} {o : Oper} {a : Act} {K : Act → World → Prop} {Q : Exit → Act → World → Prop} (s x : Operand)
    (ho : o.op = .call { callee := .builtin .append, args := #[s, x], argTypes := #[29, 29] }) (base : Nat) (v : Value) (xs : List Int) (hown : Ir base w v xs) (hs : a.eval s = v)
    (ao : Option Addr) (m c : Nat) (ys : List Int) (hx : a.eval x = .slice ao m c) (hm : ys.length = m) (hy : IntsR w ao ys) (hl : xs.length + m ≤ 1000000000) (hb : base ≤ w.heap.size)
    (h : ∀ v' w', Ir base w' v' (xs ++ ys) → w.grownBy w' v.ownBlock → (v'.ownBlock = v.ownBlock ∨ v'.ownBlock = some w.heap.size) → K (a.put o.dst v') w') :
    Oper.wp Try.prog o a w K Q := by
  obtain ⟨v', w', hr, h1, h2, h3⟩ := run_catI hown o.type ao m c ys hm hy hl hb
  unfold Oper.wp execOp
  simp only [ho, resolve, invoke, builtin, Sem.run_bind, Sem.run_pure, Result.andThen_ok, List.map_toArray, List.map_cons, List.map_nil, hs, hx, hr]
  exact h v' w' h1 h2 h3

theorem step_appI {w : World} {ops : Array Oper} {o : Oper} {a : Act} {K : Act → World → Prop} {Q : Exit → Act → World → Prop} {E : Prop} (s x : Operand) (_ho : o.op = .call { callee := .builtin .append, args := #[s, x], argTypes := #[29, 29] }) (hg : o.guard = none) (h : Oper.wp Try.prog o a w K Q) :
    if Region.wanted o (yielded ops a.tmps) = true then Oper.wp Try.prog o a w K Q else E := step_on hg h
/-- a front of a row of entries, laid behind another one. -/
theorem run_catX {base : Nat} {w : World} {v : Value} {es : List En} (h : XRow base w v es) (ty : TypeId) (ao : Option Addr) (n cap : Nat) (ES : List En) (hE : XRow base w (.slice ao n cap) ES) (k c : Nat) (hk : k ≤ ES.length) (hl : es.length + k ≤ 1000000) (hb : base ≤ w.heap.size) :
    ∃ v' w', (Builtin.append_ #[30, 30] ty #[v, .slice ao k c]).run Try.prog w = .ok v' w' ∧ XRow base w' v' (es ++ ES.take k) ∧ w.grownBy w' v.ownBlock ∧ (v'.ownBlock = v.ownBlock ∨ v'.ownBlock = some w.heap.size) := by
  obtain ⟨i0, hi, hz0, hz1, hz2⟩ := info_parts Try.infoEn
  obtain ⟨xs, h1, h3⟩ := h
  obtain ⟨ys, y1, y3⟩ := hE
  rcases y1.2 with ⟨e1, e2⟩ | ⟨g, cap', cur, e1, e2, e3, e4⟩
  · have k0 : k = 0 := by omega
    subst k0
    have ha : ao = none := by simp only [Value.slice.injEq] at e1; exact e1.1
    subst ha
    obtain ⟨av, cv, rfl, hc, _⟩ := XRow.slice (base := base) (w := w) (v := v) (es := es) ⟨xs, h1, h3⟩
    have hr := run_append_nothing (P := Try.prog) w 30 30 ty 60 i0 Try.underlying30 hi av es.length cv hc (.slice none 0 c) (Src.ofNil w Try.underlying30 c)
    exact ⟨_, _, hr, by rw [List.take_zero, List.append_nil]; exact ⟨xs, h1, h3⟩, ⟨rfl, rfl, rfl, Nat.le_refl _, fun _ _ _ => rfl⟩, Or.inl rfl⟩
  · have ha : ao = some ⟨g, 0, none⟩ := by simp only [Value.slice.injEq] at e1; exact e1.1
    subst ha
    have hyl : ys.length = ES.length * 6 := y1.1
    have hin : ∀ (q : Nat) (u : Value), (ys.take (k * 6))[q]? = some u → ys[q]? = some u ∧ q < k * 6 := fun q u hq => by
      have hlt := (List.getElem?_eq_some_iff.1 hq).1
      rw [List.length_take] at hlt
      rw [List.getElem?_take_of_lt (by omega)] at hq
      exact ⟨hq, by omega⟩
    obtain ⟨v', w', hr, o', g', _, hat⟩ := run_append_own_at (P := Try.prog) w base 30 ty 60 i0 _ 6 72 Try.underlying30 hi hz0 hz1 hz2 rfl (by decide) v es.length xs h1 ⟨g, 0, none⟩ k c (ys.take (k * 6)) (by rw [List.length_take]; omega)
      (fun j u hj => World.ownsRow.cells (by rw [e1] at y1; exact y1) (g := g) rfl j u (hin j u hj).1)
      (fun u hu => by
        obtain ⟨q, hq⟩ := List.getElem?_of_mem hu
        obtain ⟨hq1, hq2⟩ := hin q u hq
        obtain ⟨e, he⟩ : ∃ e, ES[q / 6]? = some e := ⟨_, List.getElem?_eq_getElem (by omega)⟩
        obtain ⟨mo, mc, k1, _, _⟩ := y3 (q / 6) e he
        obtain ⟨u', hu'⟩ : ∃ u', (e.cells (.slice mo e.ms.length mc))[q % 6]? = some u' := ⟨_, List.getElem?_eq_getElem (by show q % 6 < 6; omega)⟩
        have := k1 (q % 6) u' hu'
        rw [show q / 6 * 6 + q % 6 = q by omega, hq1] at this
        cases this
        exact En.cells_one e rfl u (List.mem_of_getElem? hu')) (by unfold maxLen; omega) (by omega) hb
    have bb : Below base w w' := (Below.refl _ _).grown g' hb (fun k hk => (h1.lt k hk).1)
    have keep : ∀ (u : Option Addr) (zs : List Int), InF (fun k => k < base) w u zs → InF (fun k => k < base) w' u zs := fun u zs hu j hj => by
      obtain ⟨a, a1, a2, a3⟩ := hu j hj
      exact ⟨a, a1, a2, by rw [bb.cell (by rw [add_block]; exact a2)]; exact a3⟩
    have hxl : xs.length = es.length * 6 := h1.1
    refine ⟨v', w', hr, ⟨_, by rw [List.length_append, List.length_take, Nat.min_eq_left hk]; exact o', fun i q hq => ?_⟩, g', hat⟩
    by_cases he : i < es.length
    · rw [List.getElem?_append_left he] at hq
      obtain ⟨u, c, u1, u2, u4⟩ := h3 i q hq
      refine ⟨u, c, fun j z hj => ?_, keep u _ u2, u4⟩
      have hj6 : j < 6 := (List.getElem?_eq_some_iff.1 hj).1
      rw [List.getElem?_append_left (by omega)]; exact u1 j z hj
    · rw [List.getElem?_append_right (by omega)] at hq
      have hik : i - es.length < k := by have := (List.getElem?_eq_some_iff.1 hq).1; rw [List.length_take] at this; omega
      rw [List.getElem?_take_of_lt hik] at hq
      obtain ⟨u, c, u1, u2, u4⟩ := y3 _ q hq
      refine ⟨u, c, fun j z hj => ?_, keep u _ u2, u4⟩
      have hj6 : j < 6 := (List.getElem?_eq_some_iff.1 hj).1
      rw [List.getElem?_append_right (by omega), show i * 6 + j - xs.length = (i - es.length) * 6 + j by omega, List.getElem?_take_of_lt (by omega)]
      exact u1 j z hj
theorem wp_catX {w : World} {o : Oper} {a : Act} {K : Act → World → Prop} {Q : Exit → Act → World → Prop} (s x : Operand)
    (ho : o.op = .call { callee := .builtin .append, args := #[s, x], argTypes := #[30, 30] }) (base : Nat) (v : Value) (es : List En) (h : XRow base w v es) (hs : a.eval s = v)
    (ao : Option Addr) (n cap : Nat) (ES : List En) (hE : XRow base w (.slice ao n cap) ES) (k c : Nat) (hk : k ≤ ES.length) (hx : a.eval x = .slice ao k c) (hl : es.length + k ≤ 1000000) (hb : base ≤ w.heap.size)
    (hK : ∀ v' w', XRow base w' v' (es ++ ES.take k) → w.grownBy w' v.ownBlock → (v'.ownBlock = v.ownBlock ∨ v'.ownBlock = some w.heap.size) → K (a.put o.dst v') w') :
    Oper.wp Try.prog o a w K Q := by
  obtain ⟨v', w', hr, h1, h2, h3⟩ := run_catX h o.type ao n cap ES hE k c hk hl hb
  unfold Oper.wp execOp
  simp only [ho, resolve, invoke, builtin, Sem.run_bind, Sem.run_pure, Result.andThen_ok, List.map_toArray, List.map_cons, List.map_nil, hs, hx, hr]
  exact hK v' w' h1 h2 h3
/-- no numbers, no entries, in memory of their own. -/
theorem empty_ints (w : World) : Ir w.heap.size (w.alloc (.cells #[] 3)) (.slice (some ⟨w.heap.size, 0, none⟩) 0 0) [] :=
  ⟨rfl, Or.inr ⟨w.heap.size, 0, #[], rfl, Nat.le_refl _, heap_alloc_new _ _, by simp [maxLen, i64s]⟩⟩
theorem empty_ents (base : Nat) (w : World) (hb : base ≤ w.heap.size) : XRow base (w.alloc (.cells #[] 60)) (.slice (some ⟨w.heap.size, 0, none⟩) 0 0) [] :=
  ⟨[], ⟨rfl, Or.inr ⟨w.heap.size, 0, #[], rfl, hb, heap_alloc_new _ _, by simp [maxLen]⟩⟩, fun i e hi => by simp at hi⟩
end Go.Proofs.Ythebgkkdkhlbbaa
