/- seal: add: contracts; append of one generation. -/
import Derived.Test.YtgllokinadjiaaaSAdd2
import Derived.Test.YtgllokinadjiaaaSAll
namespace Go.Proofs.Ytgllokinadjiaaa
open Go.RowKit Go.Maps

/-- one generation more. -/
theorem run_pushGn {D : Nat → Prop} {w : World} {v : Value} {gs : List Gn} (h : GRow D w v gs) (ty : TypeId) (nb : Nat) (g : Gn) (mv : Value) (hx : w.heap[nb]? = some (.cells (g.cells mv).toArray 32 (0, 0))) (hm : Ir 0 w mv g.ms) (hmd : ∀ k, mv.ownBlock = some k → D k) (hml : g.ms.length ≤ 1000000) (hl : gs.length ≤ 1000000) :
    ∃ v' w', (Builtin.append_ #[36, 36] ty #[v, .slice (some ⟨nb, 0, none⟩) 1 1]).run Try.prog w = .ok v' w' ∧ GRow (News D w w') w' v' (gs ++ [g]) ∧ w.grownBy w' v.ownBlock := by
  obtain ⟨i0, hi, hz0, hz1, hz2⟩ := info_parts Try.infoGn
  obtain ⟨xs, h1, h2, h3⟩ := h
  obtain ⟨v', w', hr, o', g', _, hat⟩ := run_append_own_at (P := Try.prog) w 0 36 ty 32 i0 _ 5 72 Try.underlying36 hi hz0 hz1 hz2 rfl (by decide) v gs.length xs h1 ⟨nb, 0, none⟩ 1 1 (g.cells mv) rfl
    (fun j u hj => by rw [Addr.add_lit, Nat.zero_add, cell_of_block hx]; simpa using hj) (Gn.cells_one g hm.oneCell) (by unfold maxLen; omega) (by omega) (Nat.zero_le _)
  refine ⟨v', w', hr, ⟨_, by rw [List.length_append]; exact o', fun k hk => ?_, fun i q hq => ?_⟩, g'⟩
  · rcases hat with e | e
    · exact Or.inl (h2 k (e ▸ hk))
    · rw [e] at hk; cases hk
      exact Or.inr ⟨Nat.le_refl _, (o'.lt _ e).2⟩
  · have hxl : xs.length = gs.length * 5 := h1.1
    by_cases e : i < gs.length
    · rw [List.getElem?_append_left e] at hq
      obtain ⟨u, u1, u2, u3, u4⟩ := h3 i q hq
      refine ⟨u, fun j c hj => ?_, u2.grow h1 (by decide) g', fun k hk => Or.inl (u3 k hk), u4⟩
      have hj5 : j < 5 := (List.getElem?_eq_some_iff.1 hj).1
      rw [List.getElem?_append_left (by omega)]; exact u1 j c hj
    · rw [List.getElem?_append_right (by omega)] at hq
      have hi0 : i = gs.length := by have := (List.getElem?_eq_some_iff.1 hq).1; simp at this; omega
      subst hi0
      simp at hq
      subst hq
      refine ⟨mv, fun j c hj => ?_, hm.grow h1 (by decide) g', fun k hk => Or.inl (hmd k hk), hml⟩
      rw [List.getElem?_append_right (by omega), show gs.length * 5 + j - xs.length = j by omega]; exact hj
theorem wp_pushGn {w : World} {o : Oper} {a : Act} {K : Act → World → Prop} {Q : Exit → Act → World → Prop} (s x : Operand)
    (ho : o.op = .call { callee := .builtin .append, args := #[s, x], argTypes := #[36, 36] }) (D : Nat → Prop) (v : Value) (gs : List Gn) (hs : a.eval s = v) (h : GRow D w v gs)
    (nb : Nat) (g : Gn) (mv : Value) (hx : a.eval x = .slice (some ⟨nb, 0, none⟩) 1 1) (hc : w.heap[nb]? = some (.cells (g.cells mv).toArray 32 (0, 0))) (hm : Ir 0 w mv g.ms) (hmd : ∀ k, mv.ownBlock = some k → D k) (hml : g.ms.length ≤ 1000000) (hl : gs.length ≤ 1000000)
    (hk : ∀ v' w', GRow (News D w w') w' v' (gs ++ [g]) → w.grownBy w' v.ownBlock → K (a.put o.dst v') w') : Oper.wp Try.prog o a w K Q := by
  obtain ⟨v', w', hr, h1, h2⟩ := run_pushGn h o.type nb g mv hc hm hmd hml hl
  unfold Oper.wp execOp
  simp only [ho, resolve, invoke, builtin, Sem.run_bind, Sem.run_pure, Result.andThen_ok, List.map_toArray, List.map_cons, List.map_nil, hs, hx, hr]
  exact hk v' w' h1 h2
theorem step_on {w : World} {ops : Array Oper} {o : Oper} {a : Act} {K : Act → World → Prop} {Q : Exit → Act → World → Prop} {E : Prop} (hg : o.guard = none) (h : Oper.wp Try.prog o a w K Q) :
    if Region.wanted o (yielded ops a.tmps) = true then Oper.wp Try.prog o a w K Q else E := by
  have hw : Region.wanted o (yielded ops a.tmps) = true := by simp [Region.wanted, hg]
  rw [if_pos hw]; exact h
theorem step_app {w : World} {ops : Array Oper} {o : Oper} {a : Act} {K : Act → World → Prop} {Q : Exit → Act → World → Prop} {E : Prop} (s x : Operand) (_ho : o.op = .call { callee := .builtin .append, args := #[s, x], argTypes := #[36, 36] }) (hg : o.guard = none) (h : Oper.wp Try.prog o a w K Q) :
    if Region.wanted o (yielded ops a.tmps) = true then Oper.wp Try.prog o a w K Q else E := step_on hg h
theorem step_twin {w : World} {ops : Array Oper} {o : Oper} {a : Act} {K : Act → World → Prop} {Q : Exit → Act → World → Prop} {E : Prop} (x : Operand)
    (ho : o.op = .call { callee := .value (.func 23), args := #[x], argTypes := #[32] }) (hg : o.guard = none) (g : Gn) (xo : Option Addr) (xn xc : Nat) (mo : Option Addr) (m cap : Nat) (hx : a.eval x = .agg #[.int .i64 g.n, .int .i64 g.eng, .int .i64 g.base, .slice xo xn xc, .slice mo m cap]) (hn : g.ms.length = m) (hb : IntsR w mo g.ms) (hl : m ≤ 1000000)
    (h : ∀ b w', Ir w.heap.size w' (.slice (some ⟨b, 0, none⟩) m m) g.ms → Below w.heap.size w w' → K (a.put o.dst (.agg #[.int .i64 g.n, .int .i64 g.eng, .int .i64 g.base, .slice none 0 0, .slice (some ⟨b, 0, none⟩) m m])) w') :
    if Region.wanted o (yielded ops a.tmps) = true then Oper.wp Try.prog o a w K Q else E := by
  refine step_on hg ?_
  have e1 : (execOp a.eval o).run Try.prog w = .ok (.enter 23 #[.agg #[.int .i64 g.n, .int .i64 g.eng, .int .i64 g.base, .slice xo xn xc, .slice mo m cap]]) w := by
    unfold execOp
    simp only [ho, resolve, invoke, Sem.run_bind, List.map_toArray, List.map_cons, List.map_nil, hx]
    simp [Act.eval, Deferred.ofValue, Result.andThen]
  unfold Oper.wp
  rw [e1, Oper.upon_enter]
  refine (setwin_any g xo xn xc mo m cap hn hl w hb).mono ?_
  rintro x' w' ⟨b, rfl, h1, h2⟩
  exact h b w' h1 h2
/-- numbers in rows are not touched by a store into the box of the generations. -/
theorem GRow.other {D : Nat → Prop} {y W : World} {p : Nat} {v : Value} {gs : List Gn} (h : GRow D y v gs) (hk : ∀ k, k ≠ p → W.heap[k]? = y.heap[k]?) {cs : Array Value} {fr : Nat × Nat} (hp : y.heap[p]? = some (.cells cs 55 fr)) : GRow D W v gs := by
  obtain ⟨xs, h1, h2, h3⟩ := h
  refine ⟨xs, own_kept h1 fun k e => hk k (fun x => ?_), h2, fun i r hi => ?_⟩
  · subst x
    obtain ⟨_, cur, fr', hc⟩ := own_tag h1 k e
    rw [hp] at hc; cases hc
  · obtain ⟨mv, k1, k2, k3, k4⟩ := h3 i r hi
    exact ⟨mv, k1, k2.other hk hp (by decide), k3, k4⟩
theorem add_fin {D : Nat → Prop} {w w5 : World} {p : Nat} {rv v : Value} {gs : List Gn} (hk : Kp D w w5) (hp : D p) (hl : ∀ k, D k → k < w.heap.size) (hb : w5.heap[p]? = some (.cells #[rv] 55 (0, 0))) (hr : GRow (News D w w5) w5 v gs) :
    Gs (News D w (w5.setCell ⟨p, 0, none⟩ v)) (w5.setCell ⟨p, 0, none⟩ v) p gs ∧ Kp D w (w5.setCell ⟨p, 0, none⟩ v) := by
  have hs : (w5.setCell ⟨p, 0, none⟩ v).heap.size = w5.heap.size := by simp [World.setCell]
  refine ⟨⟨⟨v, setCell_block hb, ?_⟩, Or.inl hp, fun k hk' => ?_⟩, hk.setCell (p := ⟨p, 0, none⟩) hp v⟩
  · refine (hr.other (fun k hk => Below.heap_setCell _ _ _ k hk) hb).mono (fun k x => ?_)
    rcases x with x | x
    · exact Or.inl x
    · exact Or.inr ⟨x.1, by rw [hs]; exact x.2⟩
  · rcases hk' with x | x
    · rw [hs]; exact Nat.lt_of_lt_of_le (hl k x) hk.size
    · exact x.2

set_option maxRecDepth 20000 in
set_option maxHeartbeats 2000000 in
theorem add_no {D : Nat → Prop} {w : World} {p : Nat} {gs : List Gn} (h : Gs D w p gs) (hl : gs.length ≤ 1000000) (n e b : Int) (xo mo : Option Addr) (xn xc m mc : Nat) (old new : List Int) (hno : old.length = xn) (hnn : new.length = m) (hlo : xn ≤ 1000000000) (hln : m ≤ 1000000000) (ho : IntsR w xo old) (hw : IntsR w mo new) (hn0 : wrongG gs n e b old new ≠ 0) :
    Calls Try.prog 21 #[.pointer (some ⟨p, 0, none⟩), .agg #[.int .i64 n, .int .i64 e, .int .i64 b, .slice xo xn xc, .slice mo m mc]] w fun x w' => ∃ q, x = .returned (refV q) ∧ Ref w' q (wrongG gs n e b old new) ∧ Below w.heap.size w w' := by
  obtain ⟨W, hW, bW, xW⟩ := boxG w n e b xo mo xn xc m mc
  have CW := hide (wrong_gn (h.below bW) hl n e b xo mo xn xc m mc old new hno hnn hlo hln (ho.below bW) (hw.below bW))
  obtain ⟨r, hr⟩ : ∃ r, wrongG gs n e b old new = r := ⟨_, rfl⟩
  rw [hr] at CW hn0 ⊢
  have q : (r == 0) = false := by simp [hn0]
  have k0 : W.cell? ⟨w.heap.size, 0, none⟩ = some (.int .i64 n) := (cell_of_block xW).trans rfl
  have k1 : W.cell? ⟨w.heap.size, 1, none⟩ = some (.int .i64 e) := (cell_of_block xW).trans rfl
  have k2 : W.cell? ⟨w.heap.size, 2, none⟩ = some (.int .i64 b) := (cell_of_block xW).trans rfl
  have k3 : W.cell? ⟨w.heap.size, 3, none⟩ = some (.slice xo xn xc) := (cell_of_block xW).trans rfl
  have k4 : W.cell? ⟨w.heap.size, 4, none⟩ = some (.slice mo m mc) := (cell_of_block xW).trans rfl
  have XW := hide xW
  have HW := hide hW
  have BW := hide bW
  clear hr hn0 h hno hnn ho hw hW bW xW hlo hln hl
  go_enter Try.func21, Try.ntmps21
  go_upto_region 1 with fail
  rw [unhide HW]
  go_wp2_with fail
  refine (unhide CW).mono ?_
  clear k0 k1 k2 k3 k4
  rintro x w1 ⟨rfl, b1⟩
  have k0 : w1.cell? ⟨w.heap.size, 0, none⟩ = some (.int .i64 n) := (cell_of_block (Below.stay b1 (unhide XW))).trans rfl
  have B1 := hide (below_far (unhide BW) b1)
  clear b1
  go_wp2
  go_ret
  exact ⟨_, rfl, Ref.new _ _ _ rfl, (unhide B1).alloc (unhide B1).size _⟩

set_option maxRecDepth 20000 in
set_option maxHeartbeats 4000000 in
theorem add_ok {D : Nat → Prop} {w : World} {p : Nat} {gs : List Gn} (h : Gs D w p gs) (hl : gs.length ≤ 1000000) (g : Gn) (xo mo : Option Addr) (xn xc m mc : Nat) (old : List Int) (hno : old.length = xn) (hnn : g.ms.length = m) (hlo : xn ≤ 1000000000) (hln : m ≤ 1000000) (ho : IntsR w xo old) (hw : IntsR w mo g.ms) (hn0 : wrongG gs g.n g.eng g.base old g.ms = 0) :
    Calls Try.prog 21 #[.pointer (some ⟨p, 0, none⟩), .agg #[.int .i64 g.n, .int .i64 g.eng, .int .i64 g.base, .slice xo xn xc, .slice mo m mc]] w fun x w' => x = .returned .nilIface ∧ Gs (News D w w') w' p (gs ++ [g]) ∧ Kp D w w' := by
  obtain ⟨V, hV, bV, xV⟩ := boxG w g.n g.eng g.base xo mo xn xc m mc
  have CW := wrong_gn (h.below bV) hl g.n g.eng g.base xo mo xn xc m mc old g.ms hno hnn hlo (by omega) (ho.below bV) (hw.below bV)
  rw [hn0] at CW
  have CW' := hide CW
  obtain ⟨⟨rv, hbx, hrr⟩, hDp, hlt⟩ := h
  obtain ⟨ao, ca, rfl, -⟩ := hrr.slice
  have XV := hide xV
  have HV := hide hV
  have BV := hide bV
  have HBX := hide hbx
  have HR := hide hrr
  have HP := hide hDp
  have HL := hide hlt
  have HI := hide hw
  have HN := hide hnn
  have k0 : V.cell? ⟨w.heap.size, 0, none⟩ = some (.int .i64 g.n) := (cell_of_block xV).trans rfl
  have k1 : V.cell? ⟨w.heap.size, 1, none⟩ = some (.int .i64 g.eng) := (cell_of_block xV).trans rfl
  have k2 : V.cell? ⟨w.heap.size, 2, none⟩ = some (.int .i64 g.base) := (cell_of_block xV).trans rfl
  have k3 : V.cell? ⟨w.heap.size, 3, none⟩ = some (.slice xo xn xc) := (cell_of_block xV).trans rfl
  have k4 : V.cell? ⟨w.heap.size, 4, none⟩ = some (.slice mo m mc) := (cell_of_block xV).trans rfl
  clear CW hbx hrr hDp hlt hV bV xV hno hlo ho hw hn0 hnn
  go_enter Try.func21, Try.ntmps21
  go_upto_region 1 with fail
  rw [unhide HV]
  go_wp2_with fail
  refine (unhide CW').mono ?_
  clear k0 k1 k2 k3 k4
  rintro x W ⟨rfl, b1⟩
  have bW := below_far (unhide BV) b1
  have xW := Below.stay b1 (unhide XV)
  have pW := Below.stay bW (unhide HBX)
  have c0 : W.drew.cell? ⟨p, 0, none⟩ = some (.slice ao gs.length ca) := (cell_of_block (w := W.drew) pW).trans rfl
  have k0 : W.drew.cell? ⟨w.heap.size, 0, none⟩ = some (.int .i64 g.n) := (cell_of_block (w := W.drew) xW).trans rfl
  have k1 : W.drew.cell? ⟨w.heap.size, 1, none⟩ = some (.int .i64 g.eng) := (cell_of_block (w := W.drew) xW).trans rfl
  have k2 : W.drew.cell? ⟨w.heap.size, 2, none⟩ = some (.int .i64 g.base) := (cell_of_block (w := W.drew) xW).trans rfl
  have k3 : W.drew.cell? ⟨w.heap.size, 3, none⟩ = some (.slice xo xn xc) := (cell_of_block (w := W.drew) xW).trans rfl
  have k4 : W.drew.cell? ⟨w.heap.size, 4, none⟩ = some (.slice mo m mc) := (cell_of_block (w := W.drew) xW).trans rfl
  have PW := hide pW
  have HB := hide ((unhide HI).below bW)
  have BW := hide bW
  have XW := hide xW
  clear pW xW bW b1 CW' HV XV BV
  go_upto_region 4 with fail
  go_region_law (first
    | (refine step_twin (.tmp 23) rfl rfl g xo xn xc mo m mc rfl (unhide HN) (IntsR.below (unhide HB) ((Below.refl _ W).drew)) hln ?_
       intro q w2 o2 b2
       have b3 : Below W.heap.size W w2 := ((Below.refl _ W).drew).trans b2
       have o3 : Ir 0 w2 (.slice (some ⟨q, 0, none⟩) m m) g.ms := o2.more (Nat.zero_le _)
       have O2 := hide o2
       have O3 := hide o3
       have B2 := hide b3
       have c2 : w2.cell? ⟨p, 0, none⟩ = some (.slice ao gs.length ca) := (cell_of_block (Below.stay b3 (unhide PW))).trans rfl
       have A3 := hide (fun o => (Below.refl w2.heap.size w2).alloc (Nat.le_refl _) o)
       have P3 := hide (fun o => Below.stay (unhide A3 o) (Below.stay b3 (unhide PW)))
       have cA : (w2.alloc (.cells #[.int .i64 g.n, .int .i64 g.eng, .int .i64 g.base, .slice none 0 0, .slice (some ⟨q, 0, none⟩) m m] 32)).cell? ⟨p, 0, none⟩ = some (.slice ao gs.length ca) := (cell_of_block (unhide P3 _)).trans rfl
       have R3 := hide (fun o => (((unhide HR).kp (E := fun _ => False) (Kp.of_below (below_far (below_far (unhide BW) b3) (unhide A3 o))) (fun _ _ x => x)).mono (E := News D w (w2.alloc o)) (fun _ x => Or.inl x)))
       have M3 := hide (fun o => Ir.below o3 (unhide A3 o))
       have D3 : Hid (∀ o k, (Value.slice (some ⟨q, 0, none⟩) m m).ownBlock = some k → News D w (w2.alloc o) k) := fun o k hk => Or.inr ⟨Nat.le_trans (unhide BW).size (o2.lt k hk).1, Nat.lt_of_lt_of_le (o2.lt k hk).2 (unhide A3 o).size⟩
       clear b2 b3 o2 o3)
    | (refine step_app (.tmp 22) (.tmp 25) rfl rfl ?_
       refine wp_pushGn (.tmp 22) (.tmp 25) rfl _ (.slice ao gs.length ca) gs rfl (unhide R3 _) w2.heap.size g (.slice (some ⟨q, 0, none⟩) m m) rfl (box_at w2 _) (unhide M3 _) (unhide D3 _) (by rw [unhide HN]; exact hln) hl ?_
       intro v5 w5 y5 g5
       obtain ⟨ao5, cap5, rfl, -⟩ := y5.slice
       have p5 : w5.heap[p]? = some (.cells #[.slice ao gs.length ca] 55 (0, 0)) := (g5.block p (heap_lt (unhide P3 _)) (fun x => by
         obtain ⟨-, cur, fr, hc⟩ := (unhide R3 (.cells #[.int .i64 g.n, .int .i64 g.eng, .int .i64 g.base, .slice none 0 0, .slice (some ⟨q, 0, none⟩) m m] 32)).tag p x.symm
         have hq := unhide P3 (.cells #[.int .i64 g.n, .int .i64 g.eng, .int .i64 g.base, .slice none 0 0, .slice (some ⟨q, 0, none⟩) m m] 32)
         rw [hc] at hq; cases hq)).trans (unhide P3 _)
       have c5 : w5.cell? ⟨p, 0, none⟩ = some (.slice ao gs.length ca) := (cell_of_block p5).trans rfl
       have f5 : w5.frozen? ⟨p, 0, none⟩ = false := free_of_block p5
       have Y5 := hide y5
       have G5 := hide g5
       have P5 := hide p5
       clear y5 g5 p5))
  all_goals
    have bA := below_far (below_far (unhide BW) (unhide B2)) (unhide A3 (.cells #[.int .i64 g.n, .int .i64 g.eng, .int .i64 g.base, .slice none 0 0, .slice (some ⟨q, 0, none⟩) m m] 32))
    have k5 : Kp D w w5 := (Kp.of_below bA).grown (unhide G5) (fun k hk hx => by
      rcases ((unhide R3 (.cells #[.int .i64 g.n, .int .i64 g.eng, .int .i64 g.base, .slice none 0 0, .slice (some ⟨q, 0, none⟩) m m] 32)).tag k hx).1 with h | h
      · exact h
      · omega)
    have s5 : (w2.alloc (.cells #[.int .i64 g.n, .int .i64 g.eng, .int .i64 g.base, .slice none 0 0, .slice (some ⟨q, 0, none⟩) m m] 32)).heap.size ≤ w5.heap.size := (unhide G5).size
    have r5 : GRow (News D w w5) w5 (.slice ao5 (gs ++ [g]).length cap5) (gs ++ [g]) := (unhide Y5).mono (fun k hk => News.sub bA.size s5 hk)
    rw [show (gs ++ [g]).length = gs.length + 1 by simp] at r5
    have FIN := hide (add_fin k5 (unhide HP) (unhide HL) (unhide P5) r5)
    clear bA k5 s5 r5
  all_goals go_wp2
  all_goals go_ret
  all_goals exact ⟨rfl, (unhide FIN).1, (unhide FIN).2⟩
end Go.Proofs.Ytgllokinadjiaaa
