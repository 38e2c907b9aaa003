/- slices.Delete of one: a contract. -/
import Derived.Test.YtnplhoekkoomiaaNWay
import Derived.Deep.RegionLaw
namespace Go.Proofs.Ytnplhoekkoomiaa
open Go.RowKit Go.Maps

theorem run_clear (w : World) (ty g off m cap : Nat) (cur : Array Value) (hh : w.heap[g]? = some (.cells cur 55 (0, 0))) (hs : off + m ≤ cur.size) :
    (Builtin.clear_ #[50] ty #[.slice (some ⟨g, off, none⟩) m cap]).run Try.prog w = .ok (.tuple #[]) (w.setCells g off (List.replicate m (.pointer none))) := by
  obtain ⟨i0, hi, hz0, hz1, hz2⟩ := info_parts Try.infoP
  cases m with
  | zero => simp [Builtin.clear_, run_underlying Try.underlying50, Result.andThen]; rfl
  | succ m =>
    have hst := run_storeCells_cells (P := Try.prog) g off (List.replicate (m + 1) (.pointer none)) 0 w (by
      intro j hj
      rw [List.length_replicate] at hj
      rw [cell_of_block hh, Array.getElem?_eq_getElem (by omega)]; rfl) (fun j _ => free_of_block hh) (fun u hu => by
      rw [List.eq_of_mem_replicate hu]; rfl)
    simp only [Nat.add_zero] at hst
    have hzc : (Builtin.zeroCells #[.pointer none] (m + 1)).toList = List.replicate (m + 1) (.pointer none) := by
      apply List.ext_getElem
      · simp [Builtin.zeroCells]
      · intro j h1 h2
        simp [Builtin.zeroCells, Nat.mod_one]
    have hzc' : (Builtin.zeroCells (Value.pointer none).cells (m + 1)).toList = List.replicate (m + 1) (.pointer none) := hzc
    simp [Builtin.clear_, run_underlying Try.underlying50, zeroValue, typeInfo, hi, hz0, Result.andThen, hzc', hst]

/-- the pointers of some blocks. -/
abbrev ptrs (bs : List Nat) : List Value := bs.map fun b => Value.pointer (some ⟨b, 0, none⟩)
theorem ptrs_one (bs : List Nat) : ∀ u ∈ ptrs bs, u.oneCell' = true := by
  intro u hu; simp only [ptrs, List.mem_map] at hu; obtain ⟨x, _, rfl⟩ := hu; rfl

/-- append(s[:i], s[j:]...), the pieces of one row. -/
theorem step_shift {w : World} {ops : Array Oper} {o : Oper} {a : Act} {K : Act → World → Prop} {Q : Exit → Act → World → Prop} {E : Prop} (hg : o.guard = none) (s x : Operand)
    (hop : o.op = Op.call { callee := Callee.builtin Builtin.append, args := #[s, x], argTypes := #[50, 50] })
    (g off i cap : Nat) (hs : a.eval s = .slice (some ⟨g, off, none⟩) i cap) (sp : Option Addr) (m c : Nat) (hx : a.eval x = .slice sp m c) (ds : List Nat) (hd : ds.length = m) (src : Nat) (hpos : 0 < m → sp = some ⟨g, src, none⟩)
    (cur : Array Value) (hh : w.heap[g]? = some (.cells cur 55 (0, 0))) (hc : ∀ j b : Nat, ds[j]? = some b → cur[src + j]? = some (.pointer (some ⟨b, 0, none⟩))) (hroom : i + m ≤ cap) (hsz : off + cap ≤ cur.size)
    (hK : K (a.put o.dst (.slice (some ⟨g, off, none⟩) (i + m) cap)) (w.setCells g (off + i) (ptrs ds))) :
    if Region.wanted o (yielded ops a.tmps) = true then Oper.wp Try.prog o a w K Q else E := by
  have hw : Region.wanted o (yielded ops a.tmps) = true := by simp [Region.wanted, hg]
  rw [if_pos hw]
  obtain ⟨i0, hi, hz0, hz1, hz2⟩ := info_parts Try.infoP
  have hsrc : Src Try.prog i0.size 50 (.slice sp m c) m (ptrs ds) w := by
    have hl : (ptrs ds).length = m * i0.size := by rw [hz1, List.length_map, hd]; omega
    by_cases hm : 0 < m
    · obtain rfl := hpos hm
      refine Src.ofSlice w Try.underlying50 _ m c _ hl (fun j u hj => ?_) (ptrs_one ds)
      rw [Addr.add_lit, cell_of_block hh]
      rw [List.getElem?_map] at hj
      cases hb : ds[j]? with
      | none => rw [hb] at hj; simp at hj
      | some b => rw [hb] at hj; simp at hj; rw [← hj]; exact hc j b hb
    · obtain rfl : m = 0 := by omega
      have hds : ds = [] := List.eq_nil_of_length_eq_zero hd
      subst hds
      cases sp with
      | none => exact Src.ofNil w Try.underlying50 c
      | some ad => exact Src.ofSlice w Try.underlying50 ad 0 c [] (by simp) (fun j u hj => by simp at hj) (fun u hu => by simp at hu)
  have hr := run_append_room_src (P := Try.prog) w 50 50 o.type 55 i0 Try.underlying50 hi g off i cap _ m _ hsrc hroom
    (fun j hj => by
      rw [List.length_map, hd] at hj
      rw [hz1, cell_of_block hh, Array.getElem?_eq_getElem (by omega)]; rfl)
    (fun j _ => free_of_block hh)
  rw [hz1, Nat.mul_one] at hr
  unfold Oper.wp
  simp [execOp, hop, resolve, invoke, builtin, hs, hx, hr, Result.andThen]
  exact hK

theorem wpList_clear {w : World} {ops : Array Oper} {rest : List Oper} {o : Oper} {a : Act} {Q : Exit → Act → World → Prop} (hgd : o.guard = none) (s : Operand)
    (ho : o.op = .call { callee := .builtin .clear, args := #[s], argTypes := #[50] }) (g off m cap : Nat) (hs : a.eval s = .slice (some ⟨g, off, none⟩) m cap) (cur : Array Value) (hh : w.heap[g]? = some (.cells cur 55 (0, 0))) (hsz : off + m ≤ cur.size)
    (h : wpList Try.prog ops Q rest (a.put o.dst (.tuple #[])) (w.setCells g off (List.replicate m (.pointer none)))) : wpList Try.prog ops Q (o :: rest) a w := by
  refine wpList_plain hgd fun K hK => ?_
  have hr := run_clear w o.type g off m cap cur hh hsz
  unfold Oper.wp
  simp [execOp, ho, resolve, invoke, builtin, hs, hr, Result.andThen]
  exact hK _ _ h

set_option maxHeartbeats 1000000 in
theorem delete_any {base g off k at' cap : Nat} {cur : Array Value} {bs : List Nat} (w : World) (hbl : bs.length = k + 1) (hg : base ≤ g) (hh : w.heap[g]? = some (.cells cur 55 (0, 0))) (hc : k + 1 ≤ cap) (hcm : cap ≤ maxLen) (hs : cur.size = off + cap)
    (hp : ∀ i b : Nat, bs[i]? = some b → cur[off + i]? = some (.pointer (some ⟨b, 0, none⟩))) (hat : at' ≤ k) :
    Calls Try.prog 26 #[.slice (some ⟨g, off, none⟩) (k + 1) cap, .int .i64 (at' : Int), .int .i64 ((at' : Int) + 1)] w fun e w' => e = .returned (.slice (some ⟨g, off, none⟩) k cap) ∧ Way base w' (.slice (some ⟨g, off, none⟩) k cap) (bs.eraseIdx at') ∧ Only base [55] w w' := by
  have hk : cap ≤ 9223372036854775807 := hcm
  have HH := hide hh
  have HS := hide hs
  have HP := hide hp
  clear hh hs hp
  have hdl : (bs.drop (at' + 1)).length = k - at' := by rw [List.length_drop, hbl]; omega
  have hdp : ∀ j b : Nat, (bs.drop (at' + 1))[j]? = some b → cur[off + (at' + 1) + j]? = some (.pointer (some ⟨b, 0, none⟩)) := fun j b hj => by
    rw [List.getElem?_drop] at hj
    rw [Nat.add_assoc]; exact unhide HP _ b hj
  have HDP := hide hdp
  have HDL := hide hdl
  obtain ⟨W, hW⟩ : ∃ W, w.drew.setCells g (off + at') (ptrs (bs.drop (at' + 1))) = W := ⟨_, rfl⟩
  obtain ⟨cur1, k1, k2, k3, k4⟩ := setCells_block (ptrs (bs.drop (at' + 1))) (off + at') w.drew cur (unhide HH)
  have o1 : Only base [55] w.drew (w.drew.setCells g (off + at') (ptrs (bs.drop (at' + 1)))) := setCells_only (unhide HH) hg
  have hcells : ∀ i b : Nat, (bs.eraseIdx at')[i]? = some b → cur1[off + i]? = some (.pointer (some ⟨b, 0, none⟩)) := by
    intro i b hb
    have hil := (List.getElem?_eq_some_iff.1 hb).1
    rw [List.length_eraseIdx, if_pos (by omega), hbl] at hil
    rw [List.getElem?_eraseIdx] at hb
    split at hb
    · rename_i h0
      rw [k3 _ (by omega)]
      exact unhide HP i b hb
    · rename_i h0
      have := k4 (i - at') (.pointer (some ⟨b, 0, none⟩)) (by rw [List.getElem?_map, List.getElem?_drop, show at' + 1 + (i - at') = i + 1 by omega, hb]; rfl) (by rw [unhide HS]; omega)
      rw [show off + i = off + at' + (i - at') by omega]; exact this
  rw [hW] at k1 o1
  obtain ⟨cur2, y1, y2, y3, y4⟩ := setCells_block (List.replicate 1 (.pointer none)) (off + k) W cur1 k1
  have o2 : Only base [55] W (W.setCells g (off + k) (List.replicate 1 (.pointer none))) := setCells_only k1 hg
  have hel : (bs.eraseIdx at').length = k := by rw [List.length_eraseIdx, if_pos (by omega), hbl]; rfl
  have FIN : Hid (Way base (W.setCells g (off + k) (List.replicate 1 (.pointer none))) (.slice (some ⟨g, off, none⟩) k cap) (bs.eraseIdx at') ∧ Only base [55] w (W.setCells g (off + k) (List.replicate 1 (.pointer none)))) := by
    refine ⟨Or.inr ⟨g, off, cap, cur2, by rw [hel], hg, y1, by rw [hel]; omega, hcm, by rw [y2, k2]; exact unhide HS, fun i b hb => ?_⟩, ((Only.refl base [55] w).drew).trans (o1.trans o2)⟩
    have hil := (List.getElem?_eq_some_iff.1 hb).1
    rw [hel] at hil
    rw [y3 _ (by omega)]; exact hcells i b hb
  have HHD : Hid (w.drew.heap[g]? = some (.cells cur 55 (0, 0))) := unhide HH
  have HK1 := hide k1
  have HZ : Hid (off + k + 1 ≤ cur1.size) := by show _ ≤ _; rw [k2, unhide HS]; omega
  have HW := hide hW
  clear hcells o1 o2 y1 y2 y3 y4 hel k1 k2 k3 k4 hdp hdl hW hbl HP
  by_cases hend : at' + 1 = cap
  · obtain rfl : at' = k := by omega
    subst hend
    have z1 : (at' : Int) ≤ (at' : Int) + 1 := by omega
    have z5 : (0 : Int) ≤ (at' : Int) + 1 := by omega
    have zc := run_clear W 0 g (off + at') 1 1 cur1 (unhide HK1) (unhide HZ)
    go_enter Try.func26, Try.ntmps26
    go_upto_region 5 with fail
    go_region_law (refine step_shift rfl (.tmp 22) (.tmp 25) rfl g off at' (at' + 1) rfl _ 0 _ rfl (bs.drop (at' + 1)) (by rw [unhide HDL]; omega) (off + (at' + 1)) (fun h => absurd h (by decide)) cur (unhide HHD) (unhide HDP) (by omega) (by rw [unhide HS]; omega) ?_; rw [unhide HW])
    all_goals go_wp2
    all_goals go_ret
    all_goals exact ⟨rfl, unhide FIN⟩
  · have z1 : at' ≤ cap := by omega
    have z2 : at' + 1 ≤ k + 1 := by omega
    have z3 : cap ≠ at' + 1 := fun h => hend h.symm
    have z4 : at' + 1 ≤ cap := by omega
    have z5 : (0 : Int) ≤ (at' : Int) + 1 := by omega
    have zc := run_clear W 0 g (off + k) 1 (cap - k) cur1 (unhide HK1) (unhide HZ)
    go_enter Try.func26, Try.ntmps26
    go_upto_region 5 with fail
    go_region_law (refine step_shift rfl (.tmp 22) (.tmp 25) rfl g off at' cap (by simp [Act.eval, Act.put]) (some ⟨g, off + (at' + 1), none⟩) (k - at') (cap - (at' + 1)) (by simp [Act.eval, Act.put]) (bs.drop (at' + 1)) (unhide HDL) (off + (at' + 1)) (fun _ => rfl) cur (unhide HHD) (unhide HDP) (by omega) (by rw [unhide HS]; omega) ?_; rw [unhide HW])
    all_goals go_wp2
    all_goals go_ret
    all_goals exact ⟨rfl, unhide FIN⟩
end Go.Proofs.Ytnplhoekkoomiaa
