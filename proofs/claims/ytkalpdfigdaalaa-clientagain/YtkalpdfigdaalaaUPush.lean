/- One entry more in a row, one place more in the map. -/
import Derived.Test.YtkalpdfigdaalaaUFind
namespace Go.Proofs.Ytkalpdfigdaalaa
open Go.RowKit Go.Maps

theorem Try.infoEn : (Try.prog.info? 31).map (fun i => (i.zero, i.size, i.bytes)) = some (some (.agg #[.int .i64 0, .int .i64 0, .int .i64 0, .string ⟨#[]⟩, .slice none 0 0, .int .i64 0]), 6, 72) := by kernel_rfl
/-- one entry more. -/
theorem run_pushEn {D : Nat → Prop} {w : World} {v : Value} {es : List En} (h : ERow D w v es) (ty : TypeId) (nb : Nat) (g : En) (mv : Value) (hx : w.heap[nb]? = some (.cells (g.cells mv).toArray 31 (0, 0))) (hm : Ir 0 w mv g.ms) (hmd : ∀ k, mv.ownBlock = some k → D k) (hml : g.ms.length ≤ 1000000) (hl : es.length ≤ 1000000) :
    ∃ v' w', (Builtin.append_ #[22, 22] ty #[v, .slice (some ⟨nb, 0, none⟩) 1 1]).run Try.prog w = .ok v' w' ∧ ERow (News D w w') w' v' (es ++ [g]) ∧ w.grownBy w' v.ownBlock := by
  obtain ⟨i0, hi, hz0, hz1, hz2⟩ := info_parts Try.infoEn
  obtain ⟨xs, h1, h2, h3⟩ := h
  obtain ⟨v', w', hr, o', g', _, hat⟩ := run_append_own_at (P := Try.prog) w 0 22 ty 31 i0 _ 6 72 Try.underlying22 hi hz0 hz1 hz2 rfl (by decide) v es.length xs h1 ⟨nb, 0, none⟩ 1 1 (g.cells mv) rfl
    (fun j u hj => by rw [Addr.add_lit, Nat.zero_add, cell_of_block hx]; simpa using hj) (En.cells_one g hm.oneCell) (by unfold maxLen; omega) (by omega) (Nat.zero_le _)
  refine ⟨v', w', hr, ⟨_, by rw [List.length_append]; exact o', fun k hk => ?_, fun i q hq => ?_⟩, g'⟩
  · rcases hat with e | e
    · exact Or.inl (h2 k (e ▸ hk))
    · rw [e] at hk; cases hk
      exact Or.inr ⟨Nat.le_refl _, (o'.lt _ e).2⟩
  · have hxl : xs.length = es.length * 6 := h1.1
    by_cases e : i < es.length
    · rw [List.getElem?_append_left e] at hq
      obtain ⟨u, u1, u2, u3, u4⟩ := h3 i q hq
      refine ⟨u, fun j c hj => ?_, u2.grow h1 (by decide) g', fun k hk => Or.inl (u3 k hk), u4⟩
      have hj5 : j < 6 := (List.getElem?_eq_some_iff.1 hj).1
      rw [List.getElem?_append_left (by omega)]; exact u1 j c hj
    · rw [List.getElem?_append_right (by omega)] at hq
      have hi0 : i = es.length := by have := (List.getElem?_eq_some_iff.1 hq).1; simp at this; omega
      subst hi0
      simp at hq
      subst hq
      refine ⟨mv, fun j c hj => ?_, hm.grow h1 (by decide) g', fun k hk => Or.inl (hmd k hk), hml⟩
      rw [List.getElem?_append_right (by omega), show es.length * 6 + j - xs.length = j by omega]; exact hj
theorem step_on {w : World} {ops : Array Oper} {o : Oper} {a : Act} {K : Act → World → Prop} {Q : Exit → Act → World → Prop} {E : Prop} (hg : o.guard = none) (h : Oper.wp Try.prog o a w K Q) :
    if Region.wanted o (yielded ops a.tmps) = true then Oper.wp Try.prog o a w K Q else E := by
  have hw : Region.wanted o (yielded ops a.tmps) = true := by simp [Region.wanted, hg]
  rw [if_pos hw]; exact h
/-- an append that is known to run so. -/
theorem step_run {w : World} {ops : Array Oper} {o : Oper} {a : Act} {K : Act → World → Prop} {Q : Exit → Act → World → Prop} {E : Prop} (s x : Operand) (t : TypeId) (ho : o.op = .call { callee := .builtin .append, args := #[s, x], argTypes := #[t, t] }) (hg : o.guard = none)
    {v z v' : Value} {w' : World} (hs : a.eval s = v) (hx : a.eval x = z) (hr : (Builtin.append_ #[t, t] o.type #[v, z]).run Try.prog w = .ok v' w') (h : K (a.put o.dst v') w') :
    if Region.wanted o (yielded ops a.tmps) = true then Oper.wp Try.prog o a w K Q else E := by
  refine step_on hg ?_
  unfold Oper.wp execOp
  simp only [ho, resolve, invoke, builtin, Sem.run_bind, Sem.run_pure, Result.andThen_ok, List.map_toArray, List.map_cons, List.map_nil, hs, hx, hr]
  exact h
theorem step_twin {w : World} {ops : Array Oper} {o : Oper} {a : Act} {K : Act → World → Prop} {Q : Exit → Act → World → Prop} {E : Prop} (x : Operand)
    (ho : o.op = .call { callee := .value (.func 22), args := #[x], argTypes := #[31] }) (hg : o.guard = none) (e : En) (mo : Option Addr) (m cap : Nat) (hx : a.eval x = .agg #[.int .i64 e.kind, .int .i64 e.client, .int .i64 e.seq, .string e.text, .slice mo m cap, .int .i64 e.dest]) (hn : e.ms.length = m) (hb : IntsR w mo e.ms) (hl : m ≤ 1000000)
    (h : ∀ mo' mc' w', Ir w.heap.size w' (.slice mo' m mc') e.ms → Below w.heap.size w w' → K (a.put o.dst (.agg #[.int .i64 e.kind, .int .i64 e.client, .int .i64 e.seq, .string e.text, .slice mo' m mc', .int .i64 e.dest])) w') :
    if Region.wanted o (yielded ops a.tmps) = true then Oper.wp Try.prog o a w K Q else E := by
  refine step_on hg ?_
  have e1 : (execOp a.eval o).run Try.prog w = .ok (.enter 22 #[.agg #[.int .i64 e.kind, .int .i64 e.client, .int .i64 e.seq, .string e.text, .slice mo m cap, .int .i64 e.dest]]) w := by
    unfold execOp
    simp only [ho, resolve, invoke, Sem.run_bind, List.map_toArray, List.map_cons, List.map_nil, hx]
    simp [Act.eval, Deferred.ofValue, Result.andThen]
  unfold Oper.wp
  rw [e1, Oper.upon_enter]
  refine (twin_any e mo m cap hn w hb hl).mono ?_
  rintro x' w' ⟨mo', mc', rfl, h1, h2⟩
  exact h mo' mc' w' h1 h2
/-- rows are not touched by a store into the table's box. -/
theorem ERow.other {D : Nat → Prop} {y W : World} {p : Nat} {v : Value} {es : List En} (h : ERow D y v es) (hk : ∀ k, k ≠ p → W.heap[k]? = y.heap[k]?) {cs : Array Value} {fr : Nat × Nat} (hp : y.heap[p]? = some (.cells cs 54 fr)) : ERow D W v es := by
  obtain ⟨xs, h1, h2, h3⟩ := h
  refine ⟨xs, own_kept h1 fun k e => hk k (fun x => ?_), h2, fun i r hi => ?_⟩
  · subst x
    obtain ⟨_, cur, fr', hc⟩ := own_tag h1 k e
    rw [hp] at hc; cases hc
  · obtain ⟨mv, k1, k2, k3, k4⟩ := h3 i r hi
    exact ⟨mv, k1, k2.other hk hp (by decide), k3, k4⟩
/-- one place more: the row that is looked up, an append to it, the store into the map. -/
theorem Pm.add {F : Nat → Prop} {w : World} {q : Nat} {es : List En} (h : Pm F w q es) (hF : ∀ k, F k → k < w.heap.size) {e : En} (hx : wf64 e.client) (hl : es.length ≤ 1000000) (pl : Int) (hpl : pl = (es.length : Int) + 1) (ty : TypeId) :
    ∃ ao n cap, (∀ Y, Below w.heap.size w Y → (Instr.lookup 52 (.map (some q)) (.int .i64 e.client) false).run Try.prog Y = .ok (.slice ao n cap) Y) ∧
      ∃ ao' n' cap' w5 w6, (Builtin.append_ #[23, 23] ty #[.slice ao n cap, .slice (some ⟨w.heap.size, 0, none⟩) 1 1]).run Try.prog (w.alloc (.cells #[.int .i64 pl] 3)) = .ok (.slice ao' n' cap') w5 ∧
        (Instr.mapUpdate 52 (.map (some q)) (.int .i64 e.client) (.slice ao' n' cap')).run Try.prog w5 = .ok () w6 ∧ Pm (News F w w6) w6 q (es ++ [e]) ∧
        (w.alloc (.cells #[.int .i64 pl] 3)).grownBy w5 (Value.slice ao n cap).ownBlock ∧ w5.grownBy w6 (some q) ∧ (∀ k, (Value.slice ao n cap).ownBlock = some k → F k) := by
  obtain ⟨M, V, h1, h3, h4⟩ := h
  obtain ⟨k1, k2, k3⟩ := h3 e.client
  obtain ⟨ao, cap, ev, -⟩ := k2.slice
  obtain ⟨n, hn⟩ : ∃ n, (ints (plc e.client es)).length = n := ⟨_, rfl⟩
  rw [hn] at ev
  have LK : ∀ Y, Below w.heap.size w Y → (Instr.lookup 52 (.map (some q)) (.int .i64 e.client) false).run Try.prog Y = .ok (.slice ao n cap) Y := fun Y hY => by
    have h1' : Y.ownsMap Try.prog 3 asIs q es.length M := by
      obtain ⟨ms, cl, hb, hr⟩ := h1
      exact ⟨ms, cl, Below.stay hY hb, hr⟩
    obtain ⟨v, ps, r1, r2⟩ := h1'.lookup keyed Try.underlying52 (zeroIs Y) rfl (keyOf_int_mk Try.underlying3 hx)
    rw [k1] at r2
    simp only [asIs, Option.some.injEq, Prod.mk.injEq, DataW.held.injEq] at r2
    rw [r2.1, ev] at r1
    exact r1
  refine ⟨ao, n, cap, LK, ?_⟩
  obtain ⟨W, hW⟩ : ∃ W, w.alloc (.cells #[.int .i64 pl] 3) = W := ⟨_, rfl⟩
  have bW : Below w.heap.size w W := by rw [← hW]; exact (Below.refl _ w).alloc (Nat.le_refl _) _
  have sW : W.heap.size = w.heap.size + 1 := by rw [← hW]; simp
  have xW : W.heap[w.heap.size]? = some (.cells #[.int .i64 pl] 3 (0, 0)) := by rw [← hW]; exact box_at _ _
  rw [hW]
  obtain ⟨i0, hi0, hz0, hz1, hz2⟩ := info_parts Try.infoI
  have kW : Ir 0 W (.slice ao n cap) (ints (plc e.client es)) := by rw [← ev]; exact k2.below bW
  have hnle : n ≤ 1000000 := by rw [← hn, ints_len, plc_len]; have := sq_le e.client es; omega
  obtain ⟨v', w5, hr, o', g', _, hat⟩ := run_append_own_at (P := Try.prog) W 0 23 ty 3 i0 _ 1 8 Try.underlying23 hi0 hz0 hz1 hz2 rfl (by decide) (.slice ao n cap) (ints (plc e.client es)).length (i64s (ints (plc e.client es))) kW ⟨w.heap.size, 0, none⟩ 1 1 (i64s [pl]) rfl
    (fun j u hj => by rw [Addr.add_lit, Nat.zero_add, cell_of_block xW]; simpa [i64s] using hj) (i64s_one _) (by unfold maxLen; omega) (by omega) (Nat.zero_le _)
  have o5 : Ir 0 w5 v' (ints (plc e.client (es ++ [e]))) := by
    rw [plc_snoc, if_pos rfl]
    have : ints (plc e.client es ++ [es.length + 1]) = ints (plc e.client es) ++ [pl] := by simp [ints, hpl]
    rw [this]
    unfold Ir
    rw [List.length_append]
    have e2 : i64s (ints (plc e.client es) ++ [pl]) = i64s (ints (plc e.client es)) ++ i64s [pl] := by simp [i64s]
    rw [e2]
    exact o'
  obtain ⟨ao', cap', ev', -⟩ := o5.slice
  obtain ⟨n', hn'⟩ : ∃ n', (ints (plc e.client (es ++ [e]))).length = n' := ⟨_, rfl⟩
  rw [hn'] at ev'
  have h15 : w5.ownsMap Try.prog 3 asIs q es.length M := by
    obtain ⟨ms, cl, hb, hr'⟩ := h1
    have hbW := Below.stay bW hb
    refine ⟨ms, cl, (g'.block q (heap_lt hbW) (fun x => ?_)).trans hbW, hr'⟩
    obtain ⟨_, cur, fr, hc⟩ := own_tag kW q x.symm
    rw [hbW] at hc; cases hc
  obtain ⟨w6, r1, r2, r3⟩ := h15.update keyed Try.underlying52 (by unfold maxLen; omega) (keyOf_int_mk Try.underlying3 hx) (d := .held v') (ps := []) (val := v') rfl
  have hmap := h15.isMap
  have keep6 : ∀ (v : Value) (ys : List Int), Ir 0 w5 v ys → Ir 0 w6 v ys := fun v ys hv => own_kept hv fun k ho => r3.block k (hv.lt k ho).2 (fun x => by
    obtain ⟨_, cur, fr, hc'⟩ := own_tag hv k ho
    cases x
    obtain ⟨ms, cl, hb, _⟩ := h15
    rw [hb] at hc'; cases hc')
  have s5 : W.heap.size ≤ w5.heap.size := g'.size
  have s6 : w5.heap.size ≤ w6.heap.size := r3.size
  have own' : ∀ k, v'.ownBlock = some k → (Value.slice ao n cap).ownBlock = some k ∨ (k = W.heap.size ∧ k < w5.heap.size) := fun k hk => by
    rcases hat with x | x
    · exact Or.inl (x ▸ hk)
    · have hk2 := hk
      rw [x] at hk2; cases hk2
      exact Or.inr ⟨rfl, (o5.lt _ hk).2⟩
  have ownV : ∀ k, v'.ownBlock = some k → News F w w6 k := fun k hk => by
    rcases own' k hk with x | ⟨x, y⟩
    · exact Or.inl (k3 k (by rw [ev]; exact x))
    · exact Or.inr ⟨by omega, by omega⟩
  subst ev'
  refine ⟨ao', n', cap', w5, w6, hr, r1, ⟨_, fun x => if x = e.client then .slice ao' n' cap' else V x, by rw [List.length_append]; exact r2, fun x => ?_, ?_⟩, g', r3, by rw [ev] at k3; exact k3⟩
  · by_cases hxe : x = e.client
    · simp only [if_pos hxe]
      rw [hxe]
      exact ⟨atKey_put_same hmap (by simp [WideAt.IsKeyLit]) _ _, keep6 _ _ o5, ownV⟩
    · simp only [if_neg hxe]
      obtain ⟨j1, j2, j3⟩ := h3 x
      have j5 : Ir 0 w5 (V x) (ints (plc x es)) := own_kept (j2.below bW) fun k ho => g'.block k (Nat.lt_of_lt_of_le (hF k (j3 k ho)) bW.size) (fun y => h4 x e.client k hxe ho (by rw [ev]; exact y.symm))
      refine ⟨by rw [atKey_put_other (by simpa using hxe)]; exact j1, ?_, fun k hk => Or.inl (j3 k hk)⟩
      rw [plc_snoc, if_neg (fun y => hxe y.symm), List.append_nil]
      exact keep6 _ _ j5
  · intro x y k hxy hxk hyk
    simp only at hxk hyk
    by_cases hxe : x = e.client
    · rw [if_pos hxe] at hxk
      rw [if_neg (fun z => hxy (hxe.trans z.symm))] at hyk
      rcases own' k hxk with z | ⟨z, -⟩
      · exact h4 e.client y k (by rw [← hxe]; exact hxy) (by rw [ev]; exact z) hyk
      · have := hF k ((h3 y).2.2 k hyk); omega
    · rw [if_neg hxe] at hxk
      by_cases hye : y = e.client
      · rw [if_pos hye] at hyk
        rcases own' k hyk with z | ⟨z, -⟩
        · exact h4 x e.client k hxe hxk (by rw [ev]; exact z)
        · have := hF k ((h3 x).2.2 k hxk); omega
      · rw [if_neg hye] at hyk
        exact h4 x y k hxy hxk hyk
end Go.Proofs.Ytkalpdfigdaalaa
