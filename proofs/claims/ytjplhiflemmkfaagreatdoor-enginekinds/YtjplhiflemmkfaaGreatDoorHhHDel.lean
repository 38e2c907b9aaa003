/- slices.Delete at rows, up to the end: a contract. -/
import Derived.Test.YtjplhiflemmkfaaGreatDoorHhHAdd
namespace Go.Proofs.YtjplhiflemmkfaaGreatDoor.Hh
open Go.RowKit Go.Maps

theorem setCells_block {g : Nat} {t : TypeId} {fr : Nat × Nat} : ∀ (vs : List Value) (o : Nat) (w : World) (cur : Array Value), w.heap[g]? = some (.cells cur t fr) →
    ∃ cur', (w.setCells g o vs).heap[g]? = some (.cells cur' t fr) ∧ cur'.size = cur.size ∧ (∀ j, j < o ∨ o + vs.length ≤ j → cur'[j]? = cur[j]?) ∧ ∀ j u, vs[j]? = some u → o + j < cur.size → cur'[o + j]? = some u
  | [], o, w, cur, h => ⟨cur, h, rfl, fun _ _ => rfl, fun j u hj => by simp at hj⟩
  | v :: r, o, w, cur, h => by
    obtain ⟨cur', h1, h2, h3, h4⟩ := setCells_block r (o + 1) (w.setCell ⟨g, o, none⟩ v) _ (setCell_block h)
    refine ⟨cur', h1, by rw [h2]; simp, fun j hj => ?_, fun j u hj hl => ?_⟩
    · rw [h3 j (by simp only [List.length_cons] at hj; omega), Array.getElem?_setIfInBounds]
      rw [if_neg (by simp only [List.length_cons] at hj; omega)]
    · cases j with
      | zero =>
        simp only [List.getElem?_cons_zero, Option.some.injEq] at hj
        subst hj
        rw [Nat.add_zero] at hl ⊢
        rw [h3 o (by omega), Array.getElem?_setIfInBounds, if_pos rfl, if_pos hl]
      | succ j =>
        rw [List.getElem?_cons_succ] at hj
        have := h4 j u hj (by simp; omega)
        rw [show o + (j + 1) = o + 1 + j by omega]; exact this
theorem setCells_kp {g : Nat} : ∀ (vs : List Value) (o : Nat) (w : World), Kp (fun k => k = g) w (w.setCells g o vs)
  | [], _, w => Kp.refl _ w
  | v :: r, o, w => ((Kp.refl (fun k => k = g) w).setCell (p := ⟨g, o, none⟩) rfl v).trans (setCells_kp r (o + 1) (w.setCell ⟨g, o, none⟩ v)) (fun _ _ x => x)

theorem run_clearR (w : World) (ty g off m cap : Nat) (cur : Array Value) (hh : w.heap[g]? = some (.cells cur 203 (0, 0))) (hs : off + m * 7 ≤ cur.size) :
    ∃ zs : List Value, (Builtin.clear_ #[130] ty #[.slice (some ⟨g, off, none⟩) m cap]).run Tryz.prog w = .ok (.tuple #[]) (w.setCells g off zs) := by
  obtain ⟨i0, hi, hz0, hz1, hz2⟩ := info_parts Tryz.infoRw
  cases m with
  | zero => exact ⟨[], by simp [Builtin.clear_, run_underlying Tryz.underlying130, Result.andThen]; rfl⟩
  | succ m =>
    obtain ⟨zs, hzs⟩ : ∃ zs, (Builtin.zeroCells (Value.agg #[.int .i64 0, .int .i64 0, .int .i64 0, .int .i64 0, .string ⟨#[]⟩, .slice none 0 0, .int .i64 0]).cells (m + 1)).toList = zs := ⟨_, rfl⟩
    have hl : zs.length = (m + 1) * 7 := by rw [← hzs]; simp [Builtin.zeroCells, Value.cells]
    have h1 : ∀ u ∈ zs, u.oneCell' = true := by
      rw [← hzs]
      intro u hu
      rw [Builtin.zeroCells, Array.toList_map, List.mem_map] at hu
      obtain ⟨x, _, rfl⟩ := hu
      show (((Value.agg #[.int .i64 0, .int .i64 0, .int .i64 0, .int .i64 0, .string ⟨#[]⟩, .slice none 0 0, .int .i64 0]).cells)[x % 7]!).oneCell' = true
      have h7 : x % 7 = 0 ∨ x % 7 = 1 ∨ x % 7 = 2 ∨ x % 7 = 3 ∨ x % 7 = 4 ∨ x % 7 = 5 ∨ x % 7 = 6 := by omega
      rcases h7 with h | h | h | h | h | h | h <;> rw [h] <;> rfl
    have hst := run_storeCells_cells (P := Tryz.prog) g off zs 0 w (by
      intro j hj
      rw [hl] at hj
      rw [cell_of_block hh, Array.getElem?_eq_getElem (by omega)]; rfl) (fun j _ => free_of_block hh) h1
    simp only [Nat.add_zero] at hst
    exact ⟨zs, by simp [Builtin.clear_, run_underlying Tryz.underlying130, zeroValue, typeInfo, hi, hz0, Result.andThen, hzs, hst]⟩

/-- append of nothing. -/
theorem step_nothing {w : World} {ops : Array Oper} {o : Oper} {a : Act} {K : Act → World → Prop} {Q : Exit → Act → World → Prop} {E : Prop} (hg : o.guard = none) (s x : Operand)
    (ho : o.op = Op.call { callee := Callee.builtin Builtin.append, args := #[s, x], argTypes := #[130, 130] })
    (av : Option Addr) (n cv : Nat) (hs : a.eval s = .slice av n cv) (hc : n ≤ cv) (ax : Option Addr) (cx : Nat) (hx : a.eval x = .slice ax 0 cx)
    (hK : K (a.put o.dst (.slice av n cv)) w) :
    if Region.wanted o (yielded ops a.tmps) = true then Oper.wp Tryz.prog o a w K Q else E := by
  refine step_on hg ?_
  obtain ⟨i0, hi, hz0, hz1, hz2⟩ := info_parts Tryz.infoRw
  have hsrc : Src Tryz.prog i0.size 130 (.slice ax 0 cx) 0 [] w := by
    cases ax with
    | none => exact Src.ofNil w Tryz.underlying130 cx
    | some ad => exact Src.ofSlice w Tryz.underlying130 ad 0 cx [] (by simp) (fun j u hj => by simp at hj) (fun u hu => by simp at hu)
  have hr := run_append_nothing (P := Tryz.prog) w 130 130 o.type 203 i0 Tryz.underlying130 hi av n cv hc (.slice ax 0 cx) hsrc
  unfold Oper.wp execOp
  simp only [ho, resolve, invoke, builtin, Sem.run_bind, Sem.run_pure, Result.andThen_ok, List.map_toArray, List.map_cons, List.map_nil, hs, hx, hr]
  exact hK
theorem RRow.cut {D : Nat → Prop} {w w' : World} {g n cap k : Nat} {rs : List Rw} (h : RRow D w (.slice (some ⟨g, 0, none⟩) n cap) rs) (hn : rs.length = n) (hk : k ≤ n) (hw : Kp (fun j => j = g) w w') (cur' : Array Value) (hh : w'.heap[g]? = some (.cells cur' 203 (0, 0))) (hc : ∀ cur fr, w.heap[g]? = some (.cells cur 203 fr) → cur'.size = cur.size ∧ ∀ j, j < k * 7 → cur'[j]? = cur[j]?) :
    RRow D w' (.slice (some ⟨g, 0, none⟩) k cap) (rs.take k) := by
  obtain ⟨xs, h1, h2, h3⟩ := h
  rcases h1.2 with ⟨e1, _⟩ | ⟨g', cap', cur, e1, b1, hg, c1, c2, c3, c4⟩
  · cases e1
  · cases e1
    obtain ⟨q1, q2⟩ := hc cur (0, 0) hg
    have hlen : (rs.take k).length = k := by rw [List.length_take]; omega
    refine ⟨xs.take (k * 7), ⟨by rw [List.length_take, h1.1, hlen]; omega, Or.inr ⟨g, cap, cur', by rw [hlen], Nat.zero_le _, hh, by omega, c2, by rw [q1, c3], ?_⟩⟩, fun j hj => h2 j hj, fun i r hi => ?_⟩
    · rw [hlen, ← c4, List.take_take, Nat.min_eq_left (by omega)]
      apply List.ext_getElem?
      intro j
      by_cases hj : j < k * 7
      · rw [List.getElem?_take_of_lt hj, List.getElem?_take_of_lt hj, Array.getElem?_toList, Array.getElem?_toList]; exact q2 j hj
      · rw [List.getElem?_eq_none_iff.2 (by rw [List.length_take]; omega), List.getElem?_eq_none_iff.2 (by rw [List.length_take]; omega)]
    · have hik : i < k := by have := (List.getElem?_eq_some_iff.1 hi).1; omega
      rw [List.getElem?_take_of_lt hik] at hi
      obtain ⟨mv, k1, k2, k3, k4⟩ := h3 i r hi
      refine ⟨mv, fun j u hj => ?_, k2.kp hw (fun x hx hxg => ?_), k3, k4⟩
      · have hj7 : j < 7 := (List.getElem?_eq_some_iff.1 hj).1
        rw [List.getElem?_take_of_lt (by omega)]; exact k1 j u hj
      · subst hxg
        obtain ⟨_, cur2, fr2, hc2⟩ := own_tag k2 x hx
        rw [hg] at hc2; cases hc2

theorem wpList_clearR {w : World} {ops : Array Oper} {rest : List Oper} {o : Oper} {a : Act} {Q : Exit → Act → World → Prop} (hgd : o.guard = none) (s : Operand)
    (ho : o.op = .call { callee := .builtin .clear, args := #[s], argTypes := #[130] }) (g off m cap : Nat) (hs : a.eval s = .slice (some ⟨g, off, none⟩) m cap) (cur : Array Value) (hh : w.heap[g]? = some (.cells cur 203 (0, 0))) (hsz : off + m * 7 ≤ cur.size)
    (h : ∀ zs, wpList Tryz.prog ops Q rest (a.put o.dst (.tuple #[])) (w.setCells g off zs)) : wpList Tryz.prog ops Q (o :: rest) a w := by
  refine wpList_plain hgd fun K hK => ?_
  obtain ⟨zs, hr⟩ := run_clearR w o.type g off m cap cur hh hsz
  unfold Oper.wp execOp
  simp only [ho, resolve, invoke, builtin, Sem.run_bind, Sem.run_pure, Result.andThen_ok, List.map_toArray, List.map_cons, List.map_nil, hs, hr]
  exact hK _ _ (h zs)

theorem del_fin {D : Nat → Prop} {w : World} {g n cap k : Nat} {rs : List Rw} {cur : Array Value} (h : RRow D w (.slice (some ⟨g, 0, none⟩) n cap) rs) (hn : rs.length = n) (hk : k ≤ n) (hg : w.heap[g]? = some (.cells cur 203 (0, 0))) (zs : List Value) :
    ∃ v, Ending.returned (.slice (some ⟨g, 0, none⟩) k cap) = .returned v ∧ RRow D (w.drew.setCells g (k * 7) zs) v (rs.take k) ∧ Kp (fun j => (Value.slice (some ⟨g, 0, none⟩) n cap).ownBlock = some j) w (w.drew.setCells g (k * 7) zs) := by
  obtain ⟨cur', q1, q2, q3, _⟩ := setCells_block zs (k * 7) w.drew cur hg
  have kp : Kp (fun j => j = g) w (w.drew.setCells g (k * 7) zs) := (Kp.refl (fun j => j = g) w).drew.trans (setCells_kp zs (k * 7) w.drew) (fun _ _ x => x)
  refine ⟨_, rfl, h.cut hn hk kp cur' q1 (fun c fr hc => ?_), kp.mono (fun j _ x => by subst x; rfl)⟩
  rw [hg] at hc
  cases hc
  exact ⟨q2, fun j hj => q3 j (Or.inl hj)⟩

set_option maxHeartbeats 1000000 in
theorem hdelete_any {D : Nat → Prop} {w : World} {ao : Option Addr} {n cap k : Nat} {rs : List Rw} (h : RRow D w (.slice ao n cap) rs) (hn : rs.length = n) (hk : k ≤ n) :
    Calls Tryz.prog 273 #[.slice ao n cap, .int .i64 (k : Int), .int .i64 (n : Int)] w fun e w' => ∃ v, e = .returned v ∧ RRow D w' v (rs.take k) ∧ Kp (fun j => (Value.slice ao n cap).ownBlock = some j) w w' := by
  obtain ⟨xs, h1, h2, h3⟩ := id h
  have HH := hide h
  have HN := hide hn
  rcases h1.2 with ⟨e1, _⟩ | ⟨g, cap', cur, e1, b1, hg, c1, c2, c3, c4⟩
  · obtain ⟨rfl, rfl, rfl⟩ : ao = none ∧ n = 0 ∧ cap = 0 := by simpa using e1
    obtain rfl : k = 0 := by omega
    clear h h1 h2 h3 hn
    go_enter Tryz.func273, Tryz.ntmps273
    go_wp2
    go_ret
    refine ⟨_, rfl, ?_, Kp.refl _ _⟩
    rw [List.take_zero]
    exact RRow.nil _ _
  · obtain ⟨rfl, rfl⟩ : ao = some ⟨g, 0, none⟩ ∧ cap = cap' := by simp only [Value.slice.injEq] at e1; exact ⟨e1.1, e1.2.2⟩
    clear e1
    rw [hn] at c1
    have hcm : cap ≤ 9223372036854775807 := c2
    by_cases hkn : k = n
    · subst hkn
      clear h h1 h2 h3 hn c4
      go_enter Tryz.func273, Tryz.ntmps273
      go_wp2
      go_ret
      refine ⟨_, rfl, ?_, Kp.refl _ _⟩
      rw [← unhide HN, List.take_length, unhide HN]
      exact unhide HH
    · have hlt : k < n := by omega
      have HG := hide hg
      have HC := hide c3
      have hki : (k : Int) ≤ (n : Int) := by omega
      have hne : ((k : Int) == (n : Int)) = false := by rw [beq_eq_false_iff_ne]; omega
      clear h h1 h2 h3 hn c4 hg c3 hkn
      have z0 : k ≤ cap := by omega
      have z4 : ¬ cap = k := by omega
      have z5 : k * 7 + (n - k) * 7 ≤ cur.size := by rw [unhide HC]; omega
      have Z5 := hide z5
      clear z5
      by_cases hend : cap = n
      · subst hend
        go_enter Tryz.func273, Tryz.ntmps273
        go_upto_region 5 with fail
        go_region_law (refine step_nothing rfl (.tmp 22) (.tmp 25) rfl (some ⟨g, 0, none⟩) k cap rfl (by omega) _ _ rfl ?_)
        all_goals (
          go_wp2_with (refine wpList_clearR rfl (.tmp 31) rfl g (k * 7) (cap - k) (cap - k) rfl cur (show w.drew.heap[g]? = _ from unhide HG) (unhide Z5) ?_)
          intro zs
          go_wp2
          go_ret
          exact del_fin (unhide HH) (unhide HN) hk (unhide HG) zs)
      · have z1 : n < cap := by omega
        go_enter Tryz.func273, Tryz.ntmps273
        go_upto_region 5 with fail
        go_region_law (refine step_nothing rfl (.tmp 22) (.tmp 25) rfl (some ⟨g, 0, none⟩) k cap (by simp [Act.eval, Act.put]) (by omega) (some ⟨g, n * 7, none⟩) (cap - n) (by simp [Act.eval, Act.put]) ?_)
        all_goals (
          go_wp2_with (refine wpList_clearR rfl (.tmp 31) rfl g (k * 7) (n - k) (cap - k) rfl cur (show w.drew.heap[g]? = _ from unhide HG) (unhide Z5) ?_)
          intro zs
          go_wp2
          go_ret
          exact del_fin (unhide HH) (unhide HN) hk (unhide HG) zs)
end Go.Proofs.YtjplhiflemmkfaaGreatDoor.Hh
