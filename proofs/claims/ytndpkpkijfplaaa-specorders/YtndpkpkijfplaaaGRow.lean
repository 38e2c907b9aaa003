/- Rows of one's own: entries without members. -/
import Derived.Test.YtndpkpkijfplaaaGKnown
import Derived.Maps.AppendAt
import Derived.Deep.Upon
import Derived.Deep.AppendSrc
namespace Go.Proofs.Ytndpkpkijfplaaa
open Go.RowKit Go.Maps

theorem flat_len {α : Type} {f : α → List Value} {n : Nat} (hf : ∀ x, (f x).length = n) (l : List α) : (l.flatMap f).length = l.length * n := by
  induction l with
  | nil => simp
  | cons x r ih => rw [List.flatMap_cons, List.length_append, ih, hf, List.length_cons, Nat.succ_mul]; omega
theorem flat_at {α : Type} {f : α → List Value} {n : Nat} (hf : ∀ x, (f x).length = n) (l : List α) : ∀ (i : Nat) (x : α), l[i]? = some x → ∀ (j : Nat) (u : Value), (f x)[j]? = some u → (l.flatMap f)[i * n + j]? = some u := by
  induction l with
  | nil => intro i x h; simp at h
  | cons y r ih =>
    intro i x h j u hj
    have hjn : j < n := by have := (List.getElem?_eq_some_iff.1 hj).1; rwa [hf] at this
    rw [List.flatMap_cons]
    cases i with
    | zero =>
      simp at h
      subst h
      rw [Nat.zero_mul, Nat.zero_add, List.getElem?_append_left (by rw [hf]; exact hjn)]; exact hj
    | succ i =>
      simp only [List.getElem?_cons_succ] at h
      rw [List.getElem?_append_right (by rw [hf, Nat.succ_mul]; omega), hf]
      have := ih i x h j u hj
      rwa [show (i + 1) * n + j - n = i * n + j by rw [Nat.succ_mul]; omega]
theorem flat_take {α : Type} {f : α → List Value} {n : Nat} (hf : ∀ x, (f x).length = n) (l : List α) : ∀ k, (l.take k).flatMap f = (l.flatMap f).take (k * n) := by
  induction l with
  | nil => intro k; simp
  | cons y r ih =>
    intro k
    cases k with
    | zero => simp
    | succ k =>
      rw [List.take_succ_cons, List.flatMap_cons, List.flatMap_cons, ih, List.take_append, hf, List.take_of_length_le (l := f y) (by rw [hf, Nat.succ_mul]; omega), show (k + 1) * n - n = k * n by rw [Nat.succ_mul]; omega]
/-- the cells of an entry without members. -/
def c6 (e : En) : List Value := e.cells (.slice none 0 0)
theorem c6_len (e : En) : (c6 e).length = 6 := rfl
theorem c6_one (e : En) : ∀ u ∈ c6 e, u.oneCell' = true := En.cells_one e rfl
def cells6 (es : List En) : List Value := es.flatMap c6
theorem cells6_app (es fs : List En) : cells6 (es ++ fs) = cells6 es ++ cells6 fs := by unfold cells6; rw [List.flatMap_append]
theorem cells6_len (es : List En) : (cells6 es).length = es.length * 6 := flat_len c6_len es
theorem cells6_one (es : List En) : ∀ u ∈ cells6 es, u.oneCell' = true := fun u hu => by
  obtain ⟨e, _, h⟩ := List.mem_flatMap.1 hu
  exact c6_one e u h
/-- a row of entries without members. -/
def ER (base : Nat) (w : World) (v : Value) (es : List En) : Prop := w.ownsRow base 29 6 v es.length (cells6 es) ∧ ∀ e ∈ es, e.ms = []
theorem ER.below {base : Nat} {w w' : World} {v : Value} {es : List En} (h : ER base w v es) (hb : Below w.heap.size w w') : ER base w' v es := ⟨own_below h.1 hb, h.2⟩
theorem ER.nil (base : Nat) (w : World) : ER base w (.slice none 0 0) [] := ⟨⟨rfl, Or.inl ⟨rfl, rfl⟩⟩, fun e he => by cases he⟩
theorem ER.slice {base : Nat} {w : World} {v : Value} {es : List En} (h : ER base w v es) : ∃ ao cap, v = .slice ao es.length cap ∧ es.length ≤ cap ∧ (ao = none → es = []) ∧ (∀ a, ao = some a → ∃ b, a = ⟨b, 0, none⟩ ∧ base ≤ b ∧ b < w.heap.size) := by
  rcases h.1.2 with ⟨e1, e2⟩ | ⟨g, cap, cur, e1, e5, _, e3, e4, _⟩
  · exact ⟨none, 0, by rw [e2]; exact e1, by omega, fun _ => List.eq_nil_of_length_eq_zero e2, fun a ha => by cases ha⟩
  · exact ⟨_, cap, e1, e3, (fun e => by cases e), fun a ha => ⟨g, by cases ha; rfl, e5, (h.1.lt g (by rw [e1]; rfl)).2⟩⟩
theorem ER.esR {base : Nat} {w : World} {ao : Option Addr} {n cap : Nat} {es : List En} (h : ER base w (.slice ao n cap) es) : EsR (fun b => base ≤ b ∧ b < w.heap.size) w ao es := fun i e hi => by
  have hms := h.2 e (List.mem_of_getElem? hi)
  rcases h.1.2 with ⟨e1, e2⟩ | ⟨g, cap', cur, e1, e5, _⟩
  · have := (List.getElem?_eq_some_iff.1 hi).1; omega
  · obtain rfl : ao = some ⟨g, 0, none⟩ := by simp only [Value.slice.injEq] at e1; exact e1.1
    refine ⟨g, 0, none, 0, rfl, ⟨e5, (h.1.lt g rfl).2⟩, fun j u hj => ?_, by rw [hms]; exact InF.nil _ _ _, by rw [hms]; simp⟩
    rw [hms] at hj
    have := World.ownsRow.cells (by rw [e1] at h; exact h.1) (g := g) rfl (i * 6 + j) u (flat_at c6_len es i e hi j u hj)
    rw [Addr.add_lit] at this
    rw [Nat.add_assoc]; exact this
theorem Try.infoEn : (Try.prog.info? 29).map (fun i => (i.zero, i.size, i.bytes)) = some (some zent, 6, 72) := by kernel_rfl
/-- one entry more. -/
theorem ER.push {base : Nat} {w : World} {v : Value} {es : List En} (h : ER base w v es) (ty : TypeId) (nb : Nat) (g : En) (hx : w.heap[nb]? = some (.cells (c6 g).toArray 29 (0, 0))) (hm : g.ms = []) (hl : es.length ≤ 1000000) (hb : base ≤ w.heap.size) :
    ∃ v' w', (Builtin.append_ #[24, 24] ty #[v, .slice (some ⟨nb, 0, none⟩) 1 1]).run Try.prog w = .ok v' w' ∧ ER base w' v' (es ++ [g]) ∧ w.grownBy w' v.ownBlock := by
  obtain ⟨i0, hi, hz0, hz1, hz2⟩ := info_parts Try.infoEn
  obtain ⟨v', w', hr, o', g', _, hat⟩ := run_append_own_at (P := Try.prog) w base 24 ty 29 i0 _ 6 72 Try.underlying24 hi hz0 hz1 hz2 rfl (by decide) v es.length (cells6 es) h.1 ⟨nb, 0, none⟩ 1 1 (c6 g) rfl
    (fun j u hj => by rw [Addr.add_lit, Nat.zero_add, cell_of_block hx]; simpa using hj) (c6_one g) (by unfold maxLen; omega) (by omega) hb
  refine ⟨v', w', hr, ⟨by rw [List.length_append, cells6_app]; simpa [cells6] using o', fun e he => ?_⟩, g'⟩
  rcases List.mem_append.1 he with h1 | h1
  · exact h.2 e h1
  · simp only [List.mem_singleton] at h1; subst h1; exact hm
/-- a front of a row, behind another one. -/
theorem ER.pushs {base base2 : Nat} {w : World} {v : Value} {es fs : List En} {ao : Option Addr} {n c : Nat} (h : ER base w v es) (ty : TypeId) (hf : ER base2 w (.slice ao n c) fs) (k c' : Nat) (hk : k ≤ fs.length) (hl : es.length ≤ 1000000) (hl2 : fs.length ≤ 1000000) (hb : base ≤ w.heap.size) :
    ∃ v' w', (Builtin.append_ #[24, 24] ty #[v, .slice ao k c']).run Try.prog w = .ok v' w' ∧ ER base w' v' (es ++ fs.take k) ∧ w.grownBy w' v.ownBlock := by
  obtain ⟨i0, hi, hz0, hz1, hz2⟩ := info_parts Try.infoEn
  have hms : ∀ e ∈ es ++ fs.take k, e.ms = [] := fun e he => by
    rcases List.mem_append.1 he with h1 | h1
    · exact h.2 e h1
    · exact hf.2 e (List.mem_of_mem_take h1)
  rcases hf.1.2 with ⟨e1, e2⟩ | ⟨g, cap', cur, e1, e5, _⟩
  · obtain rfl : ao = none := by simp only [Value.slice.injEq] at e1; exact e1.1
    obtain rfl := List.eq_nil_of_length_eq_zero e2
    obtain rfl : k = 0 := by simpa using hk
    obtain ⟨av, cv, rfl, hc, -⟩ := h.slice
    have hr := run_append_nothing (P := Try.prog) w 24 24 ty 29 i0 Try.underlying24 hi av es.length cv hc (.slice none 0 c') (Src.ofNil w Try.underlying24 c')
    exact ⟨_, _, hr, by simpa using h, ⟨rfl, rfl, rfl, Nat.le_refl _, fun _ _ _ => rfl⟩⟩
  · obtain rfl : ao = some ⟨g, 0, none⟩ := by simp only [Value.slice.injEq] at e1; exact e1.1
    have hlen : (cells6 (fs.take k)).length = k * 6 := by rw [cells6_len, List.length_take]; congr 1; omega
    obtain ⟨v', w', hr, o', g', _, hat⟩ := run_append_own_at (P := Try.prog) w base 24 ty 29 i0 _ 6 72 Try.underlying24 hi hz0 hz1 hz2 rfl (by decide) v es.length (cells6 es) h.1 ⟨g, 0, none⟩ k c' (cells6 (fs.take k)) hlen
      (fun j u hj => by
        have hj6 : j < k * 6 := by have := (List.getElem?_eq_some_iff.1 hj).1; rwa [hlen] at this
        refine World.ownsRow.cells (by rw [e1] at hf; exact hf.1) (g := g) rfl j u ?_
        unfold cells6 at hj
        rw [flat_take c6_len] at hj
        rw [List.getElem?_take, if_pos hj6] at hj
        exact hj) (cells6_one _) (by unfold maxLen; omega) (by omega) hb
    refine ⟨v', w', hr, ⟨?_, hms⟩, g'⟩
    have e3 : (es ++ fs.take k).length = es.length + k := by rw [List.length_append, List.length_take]; omega
    rw [e3, cells6_app]; exact o'
/-- a row that another one's append does not touch. -/
theorem ER.grown {base : Nat} {w w' : World} {v : Value} {es : List En} (h : ER base w v es) {row : Option Nat} (hg : w.grownBy w' row) (hn : ∀ k, v.ownBlock = some k → row ≠ some k) : ER base w' v es :=
  ⟨own_kept h.1 fun k hk => hg.block k (h.1.lt k hk).2 (fun e => hn k hk e.symm), h.2⟩
theorem ER.empty (w : World) : ER w.heap.size (w.alloc (.cells #[] 29)) (.slice (some ⟨w.heap.size, 0, none⟩) 0 0) [] :=
  ⟨⟨rfl, Or.inr ⟨w.heap.size, 0, #[], rfl, Nat.le_refl _, box_at _ _, Nat.le_refl _, by decide, by simp, by simp [cells6]⟩⟩, fun e he => by cases he⟩
/-- a text is stored. -/
theorem ER.esR_set {base : Nat} {w : World} {b n c : Nat} {es : List En} (h : ER base w (.slice (some ⟨b, 0, none⟩) n c) es) {i : Nat} {e : En} (he : es[i]? = some e) (T : ByteArray) :
    EsR (fun k => base ≤ k ∧ k < w.heap.size) (w.setCell ⟨b, i * 6 + 3, none⟩ (.string T)) (some ⟨b, 0, none⟩) (es.set i { e with text := T }) ∧ w.cell? ⟨b, i * 6 + 3, none⟩ = some (.string e.text) ∧ w.frozen? ⟨b, i * 6 + 3, none⟩ = false := by
  have hil : i < es.length := (List.getElem?_eq_some_iff.1 he).1
  obtain ⟨hb1, hb2⟩ : base ≤ b ∧ b < w.heap.size := h.1.lt b rfl
  have hc : ∀ (k : Nat) (x : En), es[k]? = some x → ∀ (j : Nat) (u : Value), (c6 x)[j]? = some u → w.cell? ⟨b, k * 6 + j, none⟩ = some u := fun k x hx j u hj => by
    have := World.ownsRow.cells h.1 (g := b) rfl (k * 6 + j) u (flat_at c6_len es k x hx j u hj)
    rwa [Addr.add_lit, Nat.zero_add] at this
  obtain ⟨cur, t, fr, hcur⟩ : ∃ cur t fr, w.heap[b]? = some (.cells cur t fr) := by
    obtain ⟨_, cur, fr, hh⟩ := own_tag h.1 b rfl
    exact ⟨cur, _, fr, hh⟩
  have hlen : cur.size > i * 6 + 3 := by
    have h2 := hc i e he 3 _ rfl
    rw [cell_of_block hcur] at h2
    exact (Array.getElem?_eq_some_iff.1 h2).1
  have hfr : w.frozen? ⟨b, i * 6 + 3, none⟩ = false := by
    rcases h.1.2 with ⟨e1, e2⟩ | ⟨g, cap', cur', e1, e5, e6, _⟩
    · omega
    · cases e1
      exact free_of_block e6
  refine ⟨fun k x hk => ?_, hc i e he 3 _ rfl, hfr⟩
  have hset := setCell_block (i := i * 6 + 3) (u := .string T) hcur
  have get : ∀ o, (w.setCell ⟨b, i * 6 + 3, none⟩ (.string T)).cell? ⟨b, o, none⟩ = if i * 6 + 3 = o then some (.string T) else w.cell? ⟨b, o, none⟩ := fun o => by
    rw [cell_of_block hset, cell_of_block hcur, Array.getElem?_setIfInBounds]
    by_cases ho : i * 6 + 3 = o
    · subst ho
      simp [hlen]
    · simp [ho]
  rw [List.getElem?_set] at hk
  by_cases hik : i = k
  · subst hik
    rw [if_pos rfl, if_pos hil] at hk
    cases hk
    have hms := h.2 e (List.mem_of_getElem? he)
    refine ⟨b, 0, none, 0, rfl, ⟨hb1, hb2⟩, fun j u hj => ?_, by simp only [hms]; exact InF.nil _ _ _, by simp [hms]⟩
    simp only [hms] at hj
    rw [Nat.zero_add, get]
    by_cases h3 : j = 3
    · subst h3
      rw [if_pos rfl]
      simpa [En.cells] using hj
    · rw [if_neg (by omega)]
      refine hc i e he j u ?_
      match j, h3, hj with
      | 0, _, hj => exact hj
      | 1, _, hj => exact hj
      | 2, _, hj => exact hj
      | 3, h3, _ => exact absurd rfl h3
      | 4, _, hj => exact hj
      | 5, _, hj => exact hj
      | j + 6, _, hj => simp [En.cells] at hj
  · rw [if_neg hik] at hk
    have hms := h.2 x (List.mem_of_getElem? hk)
    refine ⟨b, 0, none, 0, rfl, ⟨hb1, hb2⟩, fun j u hj => ?_, by rw [hms]; exact InF.nil _ _ _, by rw [hms]; simp⟩
    have hj6 : j < 6 := (List.getElem?_eq_some_iff.1 hj).1
    rw [hms] at hj
    rw [Nat.zero_add, get, if_neg (by omega)]
    exact hc k x hk j u hj
theorem empty_lit (Y : World) : (Instr.buildSlice 24 0 #[]).run Try.prog Y = .ok (.slice (some ⟨Y.heap.size, 0, none⟩) 0 0) (Y.alloc (.cells #[] 29)) := by kernel_rfl
theorem step_on {w : World} {ops : Array Oper} {o : Oper} {a : Act} {K : Act → World → Prop} {Q : Exit → Act → World → Prop} {E : Prop} (hg : o.guard = none) (h : Oper.wp Try.prog o a w K Q) :
    if Region.wanted o (yielded ops a.tmps) = true then Oper.wp Try.prog o a w K Q else E := by
  have hw : Region.wanted o (yielded ops a.tmps) = true := by simp [Region.wanted, hg]
  rw [if_pos hw]; exact h
/-- an append that is known to run so. -/
theorem step_run {w : World} {ops : Array Oper} {o : Oper} {a : Act} {K : Act → World → Prop} {Q : Exit → Act → World → Prop} {E : Prop} (s x : Operand) (t : TypeId) (ho : o.op = .call { callee := .builtin .append, args := #[s, x], argTypes := #[t, t] }) (hg : o.guard = none)
    {v z v' : Value} {w' : World} (hs : a.eval s = v) (hx : a.eval x = z) (hr : (Builtin.append_ #[t, t] o.type #[v, z]).run Try.prog w = .ok v' w') (h : K (a.put o.dst v') w') :
    if Region.wanted o (yielded ops a.tmps) = true then Oper.wp Try.prog o a w K Q else E := by
  refine step_on hg ?_
  unfold Oper.wp execOp
  simp only [ho, resolve, invoke, builtin, Sem.run_bind, Sem.run_pure, Result.andThen_ok, List.map_toArray, List.map_cons, List.map_nil, hs, hx, hr]
  exact h
/-- an append of entries that is known to run so. -/
theorem wpList_appEn {w : World} {ops : Array Oper} {rest : List Oper} {o : Oper} {a : Act} {Q : Exit → Act → World → Prop} (hgd : o.guard = none) (s x : Operand) (t : TypeId)
    (ho : o.op = .call { callee := .builtin .append, args := #[s, x], argTypes := #[t, t] }) {v z v' : Value} {w' : World} (hs : a.eval s = v) (hx : a.eval x = z)
    (hr : (Builtin.append_ #[t, t] o.type #[v, z]).run Try.prog w = .ok v' w') (h : wpList Try.prog ops Q rest (a.put o.dst v') w') : wpList Try.prog ops Q (o :: rest) a w := by
  refine wpList_plain hgd fun K hK => ?_
  unfold Oper.wp execOp
  simp only [ho, resolve, invoke, builtin, Sem.run_bind, Sem.run_pure, Result.andThen_ok, List.map_toArray, List.map_cons, List.map_nil, hs, hx, hr]
  exact hK _ _ h
end Go.Proofs.Ytndpkpkijfplaaa
