/- hist: add: a contract; append of one row. hist: From: a contract; rows of entries of the call's own. -/
import Derived.Test.YtjplhiflemmkfaaGreatDoorHhNBase
import Derived.Test.YtjplhiflemmkfaaGreatDoorHhHTerm
import Derived.Deep.RegionLaw
namespace Go.Proofs.YtjplhiflemmkfaaGreatDoor.Hh
open Go.RowKit Go.Maps

theorem Tryz.infoRw : (Tryz.prog.info? 203).map (fun i => (i.zero, i.size, i.bytes)) = some (some (.agg #[.int .i64 0, .int .i64 0, .int .i64 0, .int .i64 0, .string ⟨#[]⟩, .slice none 0 0, .int .i64 0]), 7, 80) := by kernel_rfl
theorem rw_one {r : Rw} {mv : Value} (h : mv.oneCell' = true) : ∀ u ∈ rwCells r mv, u.oneCell' = true := fun u hu => by
  rcases List.mem_cons.1 hu with rfl | h2
  · rfl
  · exact En.cells_one _ h u h2
theorem Ir.oneCell {base : Nat} {w : World} {v : Value} {ys : List Int} (h : Ir base w v ys) : v.oneCell' = true := by
  obtain ⟨ao, cap, rfl, _⟩ := h.slice; rfl
theorem Ir.grow {base : Nat} {w w' : World} {mv v : Value} {ys : List Int} {e : TypeId} {size n : Nat} {xs : List Value} (h : Ir base w mv ys) (ho : w.ownsRow 0 e size v n xs) (he : e ≠ 3) (hg : w.grownBy w' v.ownBlock) : Ir base w' mv ys :=
  own_kept h fun k hk => hg.block k (h.lt k hk).2 (fun x => by
    obtain ⟨_, cur, fr, hc⟩ := own_tag ho k x.symm
    obtain ⟨_, cur', fr', hc'⟩ := own_tag h k hk
    rw [hc] at hc'; cases hc'; exact he rfl)
theorem rowCells_len (r : Rw) (mv : Value) : (rwCells r mv).length = 7 := rfl

/-- one row more. -/
theorem run_pushRow {D : Nat → Prop} {w : World} {v : Value} {rs : List Rw} (h : RRow D w v rs) (ty : TypeId) (nb : Nat) (r : Rw) (mv : Value) (hx : w.heap[nb]? = some (.cells (rwCells r mv).toArray 203 (0, 0))) (hm : Ir 0 w mv r.2.ms) (hmd : ∀ k, mv.ownBlock = some k → D k) (hml : r.2.ms.length ≤ 1000000) (hl : rs.length ≤ 1000000) :
    ∃ v' w', (Builtin.append_ #[130, 130] ty #[v, .slice (some ⟨nb, 0, none⟩) 1 1]).run Tryz.prog w = .ok v' w' ∧ RRow (News D w w') w' v' (rs ++ [r]) ∧ w.grownBy w' v.ownBlock := by
  obtain ⟨i0, hi, hz0, hz1, hz2⟩ := info_parts Tryz.infoRw
  obtain ⟨xs, h1, h2, h3⟩ := h
  obtain ⟨v', w', hr, o', g', _, hat⟩ := run_append_own_at (P := Tryz.prog) w 0 130 ty 203 i0 _ 7 80 Tryz.underlying130 hi hz0 hz1 hz2 rfl (by decide) v rs.length xs h1 ⟨nb, 0, none⟩ 1 1 (rwCells r mv) rfl
    (fun j u hj => by rw [Addr.add_lit, Nat.zero_add, cell_of_block hx]; simpa using hj) (rw_one hm.oneCell) (by unfold maxLen; omega) (by omega) (Nat.zero_le _)
  refine ⟨v', w', hr, ⟨_, by rw [List.length_append]; exact o', fun k hk => ?_, fun i q hq => ?_⟩, g'⟩
  · rcases hat with e | e
    · exact Or.inl (h2 k (e ▸ hk))
    · rw [e] at hk; cases hk
      exact Or.inr ⟨Nat.le_refl _, (o'.lt _ e).2⟩
  · have hxl : xs.length = rs.length * 7 := h1.1
    by_cases e : i < rs.length
    · rw [List.getElem?_append_left e] at hq
      obtain ⟨u, u1, u2, u3, u4⟩ := h3 i q hq
      refine ⟨u, fun j c hj => ?_, u2.grow h1 (by decide) g', fun k hk => Or.inl (u3 k hk), u4⟩
      have hj7 : j < 7 := (List.getElem?_eq_some_iff.1 hj).1
      rw [List.getElem?_append_left (by omega)]; exact u1 j c hj
    · rw [List.getElem?_append_right (by omega)] at hq
      have hi0 : i = rs.length := by have := (List.getElem?_eq_some_iff.1 hq).1; simp at this; omega
      subst hi0
      simp at hq
      subst hq
      refine ⟨mv, fun j c hj => ?_, hm.grow h1 (by decide) g', fun k hk => Or.inl (hmd k hk), hml⟩
      rw [List.getElem?_append_right (by omega), show rs.length * 7 + j - xs.length = j by omega]; exact hj
theorem wp_pushRow {w : World} {o : Oper} {a : Act} {K : Act → World → Prop} {Q : Exit → Act → World → Prop} (s x : Operand)
    (ho : o.op = .call { callee := .builtin .append, args := #[s, x], argTypes := #[130, 130] }) (D : Nat → Prop) (v : Value) (rs : List Rw) (hs : a.eval s = v) (h : RRow D w v rs)
    (nb : Nat) (r : Rw) (mv : Value) (hx : a.eval x = .slice (some ⟨nb, 0, none⟩) 1 1) (hc : w.heap[nb]? = some (.cells (rwCells r mv).toArray 203 (0, 0))) (hm : Ir 0 w mv r.2.ms) (hmd : ∀ k, mv.ownBlock = some k → D k) (hml : r.2.ms.length ≤ 1000000) (hl : rs.length ≤ 1000000)
    (hk : ∀ v' w', RRow (News D w w') w' v' (rs ++ [r]) → w.grownBy w' v.ownBlock → K (a.put o.dst v') w') : Oper.wp Tryz.prog o a w K Q := by
  obtain ⟨v', w', hr, h1, h2⟩ := run_pushRow h o.type nb r mv hc hm hmd hml hl
  unfold Oper.wp execOp
  simp only [ho, resolve, invoke, builtin, Sem.run_bind, Sem.run_pure, Result.andThen_ok, List.map_toArray, List.map_cons, List.map_nil, hs, hx, hr]
  exact hk v' w' h1 h2
theorem step_on {w : World} {ops : Array Oper} {o : Oper} {a : Act} {K : Act → World → Prop} {Q : Exit → Act → World → Prop} {E : Prop} (hg : o.guard = none) (h : Oper.wp Tryz.prog o a w K Q) :
    if Region.wanted o (yielded ops a.tmps) = true then Oper.wp Tryz.prog o a w K Q else E := by
  have hw : Region.wanted o (yielded ops a.tmps) = true := by simp [Region.wanted, hg]
  rw [if_pos hw]; exact h
theorem step_app {w : World} {ops : Array Oper} {o : Oper} {a : Act} {K : Act → World → Prop} {Q : Exit → Act → World → Prop} {E : Prop} (s x : Operand) (_ho : o.op = .call { callee := .builtin .append, args := #[s, x], argTypes := #[130, 130] }) (hg : o.guard = none) (h : Oper.wp Tryz.prog o a w K Q) :
    if Region.wanted o (yielded ops a.tmps) = true then Oper.wp Tryz.prog o a w K Q else E := step_on hg h
theorem step_twin {w : World} {ops : Array Oper} {o : Oper} {a : Act} {K : Act → World → Prop} {Q : Exit → Act → World → Prop} {E : Prop} (x : Operand)
    (ho : o.op = .call { callee := .value (.func 165), args := #[x], argTypes := #[43] }) (hg : o.guard = none) (e : En) (mo : Option Addr) (cap : Nat) (hx : a.eval x = .agg #[.int .i64 e.kind, .int .i64 e.client, .int .i64 e.seq, .string e.text, .slice mo e.ms.length cap, .int .i64 e.dest]) (hb : IntsR w mo e.ms) (hl : e.ms.length ≤ 1000000)
    (h : ∀ mv w', Ir w.heap.size w' mv e.ms → Below w.heap.size w w' → K (a.put o.dst (.agg #[.int .i64 e.kind, .int .i64 e.client, .int .i64 e.seq, .string e.text, mv, .int .i64 e.dest])) w') :
    if Region.wanted o (yielded ops a.tmps) = true then Oper.wp Tryz.prog o a w K Q else E := by
  refine step_on hg ?_
  have e1 : (execOp a.eval o).run Tryz.prog w = .ok (.enter 165 #[.agg #[.int .i64 e.kind, .int .i64 e.client, .int .i64 e.seq, .string e.text, .slice mo e.ms.length cap, .int .i64 e.dest]]) w := by
    unfold execOp
    simp only [ho, resolve, invoke, Sem.run_bind, List.map_toArray, List.map_cons, List.map_nil, hx]
    simp [Act.eval, Deferred.ofValue, Result.andThen]
  unfold Oper.wp
  rw [e1, Oper.upon_enter]
  refine (htwin_any e mo cap w hb hl).mono ?_
  rintro x' w' ⟨mv, rfl, h1, h2⟩
  exact h mv w' h1 h2

theorem News.sub {D : Nat → Prop} {a b c : World} (hb : a.heap.size ≤ b.heap.size) (hc : b.heap.size ≤ c.heap.size) {k : Nat} (h : News (News D a b) b c k) : News D a c k := by
  rcases h with (h | h) | h
  · exact Or.inl h
  · exact Or.inr ⟨h.1, by omega⟩
  · exact Or.inr ⟨by omega, h.2⟩
theorem RRow.tag {D : Nat → Prop} {w : World} {v : Value} {rs : List Rw} (h : RRow D w v rs) : ∀ k, v.ownBlock = some k → D k ∧ ∃ cur fr, w.heap[k]? = some (.cells cur 203 fr) := fun k hk => by
  obtain ⟨xs, h1, h2, _⟩ := h
  exact ⟨h2 k hk, (own_tag h1 k hk).2⟩

/-- numbers in rows are not touched by a store into a log's own box. -/
theorem RRow.other {D : Nat → Prop} {y W : World} {p : Nat} {v : Value} {rs : List Rw} (h : RRow D y v rs) (hk : ∀ k, k ≠ p → W.heap[k]? = y.heap[k]?) {cs : Array Value} {fr : Nat × Nat} (hp : y.heap[p]? = some (.cells cs 132 fr)) : RRow D W v rs := by
  obtain ⟨xs, h1, h2, h3⟩ := h
  refine ⟨xs, own_kept h1 fun k e => hk k (fun x => ?_), h2, fun i r hi => ?_⟩
  · subst x
    obtain ⟨_, cur, fr', hc⟩ := own_tag h1 k e
    rw [hp] at hc; cases hc
  · obtain ⟨mv, k1, k2, k3, k4⟩ := h3 i r hi
    exact ⟨mv, k1, k2.other hk hp (by decide), k3, k4⟩
theorem add_fin {D : Nat → Prop} {w w5 : World} {p : Nat} {b : Int} {rv v : Value} {rs : List Rw} (hk : Kp D w w5) (hp : D p) (hl : ∀ k, D k → k < w.heap.size) (hb : w5.heap[p]? = some (.cells #[.int .i64 b, rv] 132 (0, 0))) (hr : RRow (News D w w5) w5 v rs) :
    Hs (News D w (w5.setCell ⟨p, 1, none⟩ v)) (w5.setCell ⟨p, 1, none⟩ v) p b rs ∧ Kp D w (w5.setCell ⟨p, 1, none⟩ v) := by
  have hs : (w5.setCell ⟨p, 1, none⟩ v).heap.size = w5.heap.size := by simp [World.setCell]
  refine ⟨⟨⟨v, setCell_block hb, ?_⟩, Or.inl hp, fun k hk' => ?_⟩, hk.setCell (p := ⟨p, 1, none⟩) hp v⟩
  · refine (hr.other (fun k hk => Below.heap_setCell _ _ _ k hk) hb).mono (fun k x => ?_)
    rcases x with x | x
    · exact Or.inl x
    · exact Or.inr ⟨x.1, by rw [hs]; exact x.2⟩
  · rcases hk' with x | x
    · rw [hs]; exact Nat.lt_of_lt_of_le (hl k x) hk.size
    · exact x.2

set_option maxRecDepth 20000 in
set_option maxHeartbeats 2000000 in
theorem add_any {D : Nat → Prop} {w : World} {p : Nat} {b : Int} {rs : List Rw} (h : Hs D w p b rs) (hf : rs.length ≤ 1000000) (t : Int) (e : En) (mo : Option Addr) (cap : Nat) (hb : IntsR w mo e.ms) (hl : e.ms.length ≤ 1000000) :
    Calls Tryz.prog 145 #[.pointer (some ⟨p, 0, none⟩), .int .i64 t, .agg #[.int .i64 e.kind, .int .i64 e.client, .int .i64 e.seq, .string e.text, .slice mo e.ms.length cap, .int .i64 e.dest]] w fun x w' =>
      x = .returned (.tuple #[]) ∧ Hs (News D w w') w' p b (rs ++ [(t, e)]) ∧ Kp D w w' := by
  obtain ⟨⟨rv, hbx, hrr⟩, hDp, hlt⟩ := h
  obtain ⟨W, hW⟩ : ∃ W, w.alloc (.cells #[.int .i64 e.kind, .int .i64 e.client, .int .i64 e.seq, .string e.text, .slice mo e.ms.length cap, .int .i64 e.dest] 43) = W := ⟨_, rfl⟩
  have bW : Below w.heap.size w W := by rw [← hW]; exact (Below.refl _ w).alloc (Nat.le_refl _) _
  have xW : W.heap[w.heap.size]? = some (.cells #[.int .i64 e.kind, .int .i64 e.client, .int .i64 e.seq, .string e.text, .slice mo e.ms.length cap, .int .i64 e.dest] 43 (0, 0)) := by rw [← hW]; exact box_at _ _
  have pW := Below.stay bW hbx
  have c0 : W.drew.cell? ⟨p, 1, none⟩ = some rv := (cell_of_block (w := W.drew) pW).trans rfl
  have k0 : W.drew.cell? ⟨w.heap.size, 0, none⟩ = some (.int .i64 e.kind) := (cell_of_block (w := W.drew) xW).trans rfl
  have k1 : W.drew.cell? ⟨w.heap.size, 1, none⟩ = some (.int .i64 e.client) := (cell_of_block (w := W.drew) xW).trans rfl
  have k2 : W.drew.cell? ⟨w.heap.size, 2, none⟩ = some (.int .i64 e.seq) := (cell_of_block (w := W.drew) xW).trans rfl
  have k3 : W.drew.cell? ⟨w.heap.size, 3, none⟩ = some (.string e.text) := (cell_of_block (w := W.drew) xW).trans rfl
  have k4 : W.drew.cell? ⟨w.heap.size, 4, none⟩ = some (.slice mo e.ms.length cap) := (cell_of_block (w := W.drew) xW).trans rfl
  have k5 : W.drew.cell? ⟨w.heap.size, 5, none⟩ = some (.int .i64 e.dest) := (cell_of_block (w := W.drew) xW).trans rfl
  have PW := hide pW
  have HB := hide (hb.below bW)
  have BW := hide bW
  have HW := hide hW
  have HR := hide hrr
  have HP := hide hDp
  have HL := hide hlt
  obtain ⟨ao, ca, rfl, _⟩ := hrr.slice
  clear pW xW bW hW hb hbx hrr hDp hlt
  go_enter Tryz.func145, Tryz.ntmps145
  go_wp2_with fail
  rw [unhide HW]
  go_region_law (first
    | (refine step_twin (.tmp 12) rfl rfl e mo cap rfl (IntsR.below (unhide HB) ((Below.refl _ W).drew)) hl ?_
       intro mv w2 o2 b2
       have b3 : Below W.heap.size W w2 := ((Below.refl _ W).drew).trans b2
       have o3 : Ir 0 w2 mv e.ms := o2.zero
       obtain ⟨mo2, mc2, rfl, -⟩ := o3.slice
       have O2 := hide o2
       have O3 := hide o3
       have B2 := hide b3
       have c2 : w2.cell? ⟨p, 1, none⟩ = some (.slice ao rs.length ca) := (cell_of_block (Below.stay b3 (unhide PW))).trans rfl
       have A3 := hide (fun o => (Below.refl w2.heap.size w2).alloc (Nat.le_refl _) o)
       have P3 := hide (fun o => Below.stay (unhide A3 o) (Below.stay b3 (unhide PW)))
       have cA : (w2.alloc (.cells #[.int .i64 t, .int .i64 e.kind, .int .i64 e.client, .int .i64 e.seq, .string e.text, .slice mo2 e.ms.length mc2, .int .i64 e.dest] 203)).cell? ⟨p, 1, none⟩ = some (.slice ao rs.length ca) := (cell_of_block (unhide P3 _)).trans rfl
       have R3 := hide (fun o => (((unhide HR).kp (E := fun _ => False) (Kp.of_below (below_far (below_far (unhide BW) b3) (unhide A3 o))) (fun _ _ x => x)).mono (E := News D w (w2.alloc o)) (fun _ x => Or.inl x)))
       have M3 := hide (fun o => Ir.below o3 (unhide A3 o))
       have D3 : Hid (∀ o k, (Value.slice mo2 e.ms.length mc2).ownBlock = some k → News D w (w2.alloc o) k) := fun o k hk => Or.inr ⟨Nat.le_trans (unhide BW).size (o2.lt k hk).1, Nat.lt_of_lt_of_le (o2.lt k hk).2 (unhide A3 o).size⟩
       clear b2 b3 o2 o3)
    | (refine step_app (.tmp 10) (.tmp 15) rfl rfl ?_
       refine wp_pushRow (.tmp 10) (.tmp 15) rfl _ (.slice ao rs.length ca) rs rfl (unhide R3 _) w2.heap.size (t, e) (.slice mo2 e.ms.length mc2) rfl (box_at w2 _) (unhide M3 _) (unhide D3 _) hl hf ?_
       intro v5 w5 y5 g5
       obtain ⟨ao5, cap5, rfl, -⟩ := y5.slice
       have p5 : w5.heap[p]? = some (.cells #[.int .i64 b, .slice ao rs.length ca] 132 (0, 0)) := (g5.block p (heap_lt (unhide P3 _)) (fun x => by
         obtain ⟨-, cur, fr, hc⟩ := (unhide R3 (.cells #[.int .i64 t, .int .i64 e.kind, .int .i64 e.client, .int .i64 e.seq, .string e.text, .slice mo2 e.ms.length mc2, .int .i64 e.dest] 203)).tag p x.symm
         have hq := unhide P3 (.cells #[.int .i64 t, .int .i64 e.kind, .int .i64 e.client, .int .i64 e.seq, .string e.text, .slice mo2 e.ms.length mc2, .int .i64 e.dest] 203)
         rw [hc] at hq; cases hq)).trans (unhide P3 _)
       have c5 : w5.cell? ⟨p, 1, none⟩ = some (.slice ao rs.length ca) := (cell_of_block p5).trans rfl
       have f5 : w5.frozen? ⟨p, 1, none⟩ = false := free_of_block p5
       have Y5 := hide y5
       have G5 := hide g5
       have P5 := hide p5
       clear y5 g5 p5))
  all_goals
    have bA := below_far (below_far (unhide BW) (unhide B2)) (unhide A3 (.cells #[.int .i64 t, .int .i64 e.kind, .int .i64 e.client, .int .i64 e.seq, .string e.text, .slice mo2 e.ms.length mc2, .int .i64 e.dest] 203))
    have k5 : Kp D w w5 := (Kp.of_below bA).grown (unhide G5) (fun k hk hx => by
      rcases ((unhide R3 (.cells #[.int .i64 t, .int .i64 e.kind, .int .i64 e.client, .int .i64 e.seq, .string e.text, .slice mo2 e.ms.length mc2, .int .i64 e.dest] 203)).tag k hx).1 with h | h
      · exact h
      · omega)
    have s5 : (w2.alloc (.cells #[.int .i64 t, .int .i64 e.kind, .int .i64 e.client, .int .i64 e.seq, .string e.text, .slice mo2 e.ms.length mc2, .int .i64 e.dest] 203)).heap.size ≤ w5.heap.size := (unhide G5).size
    have r5 : RRow (News D w w5) w5 (.slice ao5 (rs ++ [(t, e)]).length cap5) (rs ++ [(t, e)]) := (unhide Y5).mono (fun k hk => News.sub bA.size s5 hk)
    rw [show (rs ++ [(t, e)]).length = rs.length + 1 by simp] at r5
    have FIN := hide (add_fin k5 (unhide HP) (unhide HL) (unhide P5) r5)
    clear bA k5 s5 r5
  all_goals go_wp2
  all_goals go_end0
  all_goals exact ⟨rfl, (unhide FIN).1, (unhide FIN).2⟩
end Go.Proofs.YtjplhiflemmkfaaGreatDoor.Hh
namespace Go.Proofs.YtjplhiflemmkfaaGreatDoor.Hh
open Go.RowKit Go.Maps

/-- a row of entries of the call's own, their members in rows of its own, too. -/
def ERow (N : Nat → Prop) (base : Nat) (w : World) (v : Value) (es : List En) : Prop :=
  ∃ xs, w.ownsRow base 43 6 v es.length xs ∧ ∀ (i : Nat) (e : En), es[i]? = some e → ∃ mv, (∀ (j : Nat) (u : Value), (e.cells mv)[j]? = some u → xs[i * 6 + j]? = some u) ∧ Ir base w mv e.ms ∧ (∀ k, mv.ownBlock = some k → N k) ∧ e.ms.length ≤ 1000000
theorem ERow.nil (N : Nat → Prop) (base : Nat) (w : World) : ERow N base w (.slice none 0 0) [] := ⟨[], ⟨rfl, Or.inl ⟨rfl, rfl⟩⟩, fun i e hi => by simp at hi⟩
theorem ERow.mono {N M : Nat → Prop} {base : Nat} {w : World} {v : Value} {es : List En} (h : ERow N base w v es) (hm : ∀ k, N k → M k) : ERow M base w v es := by
  obtain ⟨xs, h1, h2⟩ := h
  refine ⟨xs, h1, fun i e hi => ?_⟩
  obtain ⟨mv, k1, k2, k3, k4⟩ := h2 i e hi
  exact ⟨mv, k1, k2, fun k x => hm k (k3 k x), k4⟩
theorem ERow.below {N : Nat → Prop} {base : Nat} {w w' : World} {v : Value} {es : List En} (h : ERow N base w v es) (hb : Below w.heap.size w w') : ERow N base w' v es := by
  obtain ⟨xs, h1, h2⟩ := h
  refine ⟨xs, own_below h1 hb, fun i e hi => ?_⟩
  obtain ⟨mv, k1, k2, k3, k4⟩ := h2 i e hi
  exact ⟨mv, k1, k2.below hb, k3, k4⟩
/-- a row of numbers grows. -/
theorem ERow.grownI {N : Nat → Prop} {base b2 : Nat} {w w' : World} {v tv : Value} {es : List En} {ys : List Int} (h : ERow N base w v es) (ht : Ir b2 w tv ys) (hn : ∀ k, tv.ownBlock = some k → ¬ N k) (hg : w.grownBy w' tv.ownBlock) : ERow N base w' v es := by
  obtain ⟨xs, h1, h2⟩ := h
  refine ⟨xs, own_kept h1 fun k hk => hg.block k (h1.lt k hk).2 (fun x => ?_), fun i e hi => ?_⟩
  · obtain ⟨_, cur, fr, hc⟩ := own_tag h1 k hk
    obtain ⟨_, cur', fr', hc'⟩ := own_tag ht k x.symm
    rw [hc] at hc'; cases hc'
  · obtain ⟨mv, k1, k2, k3, k4⟩ := h2 i e hi
    exact ⟨mv, k1, own_kept k2 fun k hk => hg.block k (k2.lt k hk).2 (fun x => hn k x.symm (k3 k hk)), k3, k4⟩
theorem ERow.slice {N : Nat → Prop} {base : Nat} {w : World} {v : Value} {es : List En} (h : ERow N base w v es) : ∃ ao cap, v = .slice ao es.length cap ∧ es.length ≤ cap ∧ cap ≤ maxLen := by
  obtain ⟨xs, h1, _⟩ := h
  rcases h1.2 with ⟨e1, e2⟩ | ⟨g, cap, cur, e1, _, _, e3, e4, _⟩
  · exact ⟨none, 0, by rw [e2]; exact e1, by omega, by decide⟩
  · exact ⟨_, cap, e1, e3, e4⟩
/-- its entries can be read. -/
theorem ERow.esR {N : Nat → Prop} {base : Nat} {w : World} {ao : Option Addr} {n cap : Nat} {es : List En} (h : ERow N base w (.slice ao n cap) es) : EsR (fun k => base ≤ k ∧ k < w.heap.size) w ao es := fun i e hi => by
  obtain ⟨xs, h1, h2⟩ := h
  obtain ⟨mv, k1, k2, k3, k4⟩ := h2 i e hi
  obtain ⟨mo, mc, rfl, _⟩ := k2.slice
  rcases h1.2 with ⟨e1, e2⟩ | ⟨g, cap', cur, e1, e2, e3, _⟩
  · have := (List.getElem?_eq_some_iff.1 hi).1; omega
  · obtain rfl : ao = some ⟨g, 0, none⟩ := by simp only [Value.slice.injEq] at e1; exact e1.1
    refine ⟨g, 0, mo, mc, rfl, ⟨e2, heap_lt e3⟩, fun j u hj => ?_, k2.inF.mono (fun k hk => k2.lt k hk), k4⟩
    have := World.ownsRow.cells (by rw [e1] at h1; exact h1) (g := g) rfl (i * 6 + j) u (k1 j u hj)
    rw [Addr.add_lit] at this
    rw [Nat.add_assoc]; exact this
theorem Tryz.infoEn : (Tryz.prog.info? 43).map (fun i => (i.zero, i.size, i.bytes)) = some (some (.agg #[.int .i64 0, .int .i64 0, .int .i64 0, .string ⟨#[]⟩, .slice none 0 0, .int .i64 0]), 6, 72) := by kernel_rfl
/-- one entry more. -/
theorem run_pushEn {N : Nat → Prop} {base : Nat} {w : World} {v : Value} {es : List En} (h : ERow N base w v es) (ty : TypeId) (nb : Nat) (e : En) (mv : Value) (hx : w.heap[nb]? = some (.cells (e.cells mv).toArray 43 (0, 0))) (hm : Ir base w mv e.ms) (hmn : ∀ k, mv.ownBlock = some k → N k) (hml : e.ms.length ≤ 1000000) (hl : es.length ≤ 1000000) (hb : base ≤ w.heap.size) :
    ∃ v' w', (Builtin.append_ #[48, 48] ty #[v, .slice (some ⟨nb, 0, none⟩) 1 1]).run Tryz.prog w = .ok v' w' ∧ ERow N base w' v' (es ++ [e]) ∧ w.grownBy w' v.ownBlock ∧ (v'.ownBlock = v.ownBlock ∨ v'.ownBlock = some w.heap.size) := by
  obtain ⟨i0, hi, hz0, hz1, hz2⟩ := info_parts Tryz.infoEn
  obtain ⟨xs, h1, h3⟩ := h
  obtain ⟨v', w', hr, o', g', _, hat⟩ := run_append_own_at (P := Tryz.prog) w base 48 ty 43 i0 _ 6 72 Tryz.underlying48 hi hz0 hz1 hz2 rfl (by decide) v es.length xs h1 ⟨nb, 0, none⟩ 1 1 (e.cells mv) rfl
    (fun j u hj => by rw [Addr.add_lit, Nat.zero_add, cell_of_block hx]; simpa using hj) (En.cells_one e hm.oneCell) (by unfold maxLen; omega) (by omega) hb
  have keep : ∀ (u : Value) (ys : List Int), Ir base w u ys → Ir base w' u ys := fun u ys hu => own_kept hu fun k hk => g'.block k (hu.lt k hk).2 (fun x => by
    obtain ⟨_, cur, fr, hc⟩ := own_tag h1 k x.symm
    obtain ⟨_, cur', fr', hc'⟩ := own_tag hu k hk
    rw [hc] at hc'; cases hc')
  refine ⟨v', w', hr, ⟨_, by rw [List.length_append]; exact o', fun i q hq => ?_⟩, g', hat⟩
  have hxl : xs.length = es.length * 6 := h1.1
  by_cases he : i < es.length
  · rw [List.getElem?_append_left he] at hq
    obtain ⟨u, u1, u2, u3, u4⟩ := h3 i q hq
    refine ⟨u, fun j c hj => ?_, keep u _ u2, u3, u4⟩
    have hj6 : j < 6 := (List.getElem?_eq_some_iff.1 hj).1
    rw [List.getElem?_append_left (by omega)]; exact u1 j c hj
  · rw [List.getElem?_append_right (by omega)] at hq
    have hi0 : i = es.length := by have := (List.getElem?_eq_some_iff.1 hq).1; simp at this; omega
    subst hi0
    simp at hq
    subst hq
    refine ⟨mv, fun j c hj => ?_, keep mv _ hm, hmn, hml⟩
    rw [List.getElem?_append_right (by omega), show es.length * 6 + j - xs.length = j by omega]; exact hj
theorem wpList_pushEn {w : World} {ops : Array Oper} {rest : List Oper} {o : Oper} {a : Act} {Q : Exit → Act → World → Prop} (hgd : o.guard = none) (s x : Operand)
    (ho : o.op = .call { callee := .builtin .append, args := #[s, x], argTypes := #[48, 48] }) (N : Nat → Prop) (base : Nat) (v : Value) (es : List En) (hs : a.eval s = v) (h : ERow N base w v es)
    (nb : Nat) (e : En) (mv : Value) (hx : a.eval x = .slice (some ⟨nb, 0, none⟩) 1 1) (hc : w.heap[nb]? = some (.cells (e.cells mv).toArray 43 (0, 0))) (hm : Ir base w mv e.ms) (hmn : ∀ k, mv.ownBlock = some k → N k) (hml : e.ms.length ≤ 1000000) (hl : es.length ≤ 1000000) (hb : base ≤ w.heap.size)
    (hk : ∀ v' w', ERow N base w' v' (es ++ [e]) → w.grownBy w' v.ownBlock → (v'.ownBlock = v.ownBlock ∨ v'.ownBlock = some w.heap.size) → wpList Tryz.prog ops Q rest (a.put o.dst v') w') : wpList Tryz.prog ops Q (o :: rest) a w := by
  refine wpList_plain hgd fun K hK => ?_
  obtain ⟨v', w', hr, h1, h2, h3⟩ := run_pushEn h o.type nb e mv hc hm hmn hml hl hb
  unfold Oper.wp execOp
  simp only [ho, resolve, invoke, builtin, Sem.run_bind, Sem.run_pure, Result.andThen_ok, List.map_toArray, List.map_cons, List.map_nil, hs, hx, hr]
  exact hK _ _ (hk v' w' h1 h2 h3)
/-- append of numbers, and where the new row lies. -/
theorem wpList_appAt {w : World} {ops : Array Oper} {rest : List Oper} {o : Oper} {a : Act} {Q : Exit → Act → World → Prop} (hgd : o.guard = none) (s x : Operand)
    (ho : o.op = .call { callee := .builtin .append, args := #[s, x], argTypes := #[24, 24] }) (base : Nat) (v : Value) (xs : List Int) (hs : a.eval s = v) (hown : Ir base w v xs)
    (nb : Nat) (y : Int) (hx : a.eval x = .slice (some ⟨nb, 0, none⟩) 1 1) (hy : w.cell? ⟨nb, 0, none⟩ = some (.int .i64 y)) (hl : xs.length ≤ 1000000) (hb : base ≤ w.heap.size)
    (h : ∀ v' w', Ir base w' v' (xs ++ [y]) → w.grownBy w' v.ownBlock → (v'.ownBlock = v.ownBlock ∨ v'.ownBlock = some w.heap.size) → wpList Tryz.prog ops Q rest (a.put o.dst v') w') : wpList Tryz.prog ops Q (o :: rest) a w := by
  obtain ⟨i0, hi0, hz0, hz1, hz2⟩ := info_parts Tryz.infoI
  refine wpList_plain hgd fun K hK => ?_
  obtain ⟨v', w', hr, o', g', _, hat⟩ := run_append_own_at (P := Tryz.prog) w base 24 o.type 3 i0 _ 1 8 Tryz.underlying24 hi0 hz0 hz1 hz2 rfl (by decide) v xs.length (i64s xs) hown ⟨nb, 0, none⟩ 1 1 [.int .i64 y] rfl
    (fun j u hj => by
      have hj0 : j = 0 := by have := (List.getElem?_eq_some_iff.1 hj).1; simp at this; omega
      subst hj0
      simp at hj; subst hj
      rw [Addr.add_lit]; exact hy)
    (fun u hu => by simp at hu; subst hu; rfl) (by unfold maxLen; omega) (by omega) hb
  have h1 : Ir base w' v' (xs ++ [y]) := by
    unfold Ir
    rw [List.length_append, i64s_append]; exact o'
  unfold Oper.wp execOp
  simp only [ho, resolve, invoke, builtin, Sem.run_bind, Sem.run_pure, Result.andThen_ok, List.map_toArray, List.map_cons, List.map_nil, hs, hx, hr]
  exact hK _ _ (h v' w' h1 g' hat)
end Go.Proofs.YtjplhiflemmkfaaGreatDoor.Hh
