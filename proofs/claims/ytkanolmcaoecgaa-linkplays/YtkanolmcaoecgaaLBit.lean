/- link's word, bit, knows: contracts. -/
import Derived.Test.YtkanolmcaoecgaaLPure
import Derived.Deep.QuietTactic
import Derived.Deep.DeepCutAuto
namespace Go.Proofs.Ytkanolmcaoecgaa
open Go.RowKit
theorem word_any (n : Nat) (w : World) (hn : n < 9223372036854775808) : Calls Try.prog 26 #[.int .i64 (n : Int)] w fun e w' => e = .returned (.int .i64 ((n % 256 / 64 : Nat) : Int)) ∧ w' = w := by
  go_enter Try.func26, Try.ntmps26
  go_wp2
  go_ret
  exact ⟨rfl, rfl⟩
theorem bit_any (n : Nat) (w : World) (hn : n < 9223372036854775808) : Calls Try.prog 27 #[.int .i64 (n : Int)] w fun e w' => e = .returned (.int .u64 ((2 ^ (n % 64) : Nat) : Int)) ∧ w' = w := by
  have e1 : IntKind.u64.wrap (2 ^ (n % 64)) = ((2 ^ (n % 64) : Nat) : Int) := by
    have := pow_lt n
    have e : (2 : Int) ^ (n % 64) = ((2 ^ (n % 64) : Nat) : Int) := by simp
    rw [e]
    generalize 2 ^ (n % 64) = z at *
    simp only [IntKind.wrap, IntKind.bits, IntKind.signed]
    simp
    omega
  have HE := hide e1
  clear e1
  go_enter Try.func27, Try.ntmps27
  go_wp2
  go_ret
  refine ⟨?_, rfl⟩
  rw [← unhide HE]; rfl
theorem heap_alloc_new' (w : World) (o : Obj) : (w.alloc o).heap[w.heap.size]? = some o := heap_alloc_new w o
theorem cell_word (h : Hd) (k : Nat) (hk : k < 4) : h.cells[2 + k]? = some (.int .u64 (h.word k : Int)) := by
  obtain rfl | rfl | rfl | rfl : k = 0 ∨ k = 1 ∨ k = 2 ∨ k = 3 := by omega
  all_goals rfl
theorem cells_put (h : Hd) (k v : Nat) (hk : k < 4) : h.cells.setIfInBounds (2 + k) (.int .u64 (v : Int)) = (h.put k v).cells := by
  obtain rfl | rfl | rfl | rfl : k = 0 ∨ k = 1 ∨ k = 2 ∨ k = 3 := by omega
  all_goals rfl
theorem bcell {w : World} {p i : Nat} {u : Value} {cs : Array Value} {t : TypeId} {fr : Nat × Nat} (h : w.heap[p]? = some (.cells cs t fr)) (hi : cs[i]? = some u) : w.cell? ⟨p, i, none⟩ = some u := by
  simp [World.cell?, h, hi]

theorem drewN_below (w : World) (n : Nat) : Below w.heap.size w (w.drewN n) := ⟨rfl, rfl, rfl, Nat.le_refl _, fun _ _ => rfl⟩
set_option maxHeartbeats 400000 in
theorem knows_any (h : Hd) (n : Nat) (w : World) (ho : h.ok) (hn : n < 9223372036854775808) :
    Calls Try.prog 23 #[.agg h.cells, .int .i64 (n : Int)] w fun e w' => e = .returned (.bool (h.knows n)) ∧ Below w.heap.size w w' := by
  obtain ⟨W, hW⟩ : ∃ W, w.alloc (.cells h.cells 59) = W := ⟨_, rfl⟩
  have bW : Below w.heap.size w W := by rw [← hW]; exact (Below.refl _ w).alloc (Nat.le_refl _) _
  have xW : W.heap[w.heap.size]? = some (.cells h.cells 59 (0, 0)) := by rw [← hW]; exact heap_alloc_new _ _
  have c1 : W.cell? ⟨w.heap.size, 1, none⟩ = some (.int .i64 (h.top : Int)) := bcell xW rfl
  have ht := ho.2.1
  have c2 : W.cell? ⟨w.heap.size, 2 + n % 256 / 64, none⟩ = some (.int .u64 (h.word (n % 256 / 64) : Int)) := bcell xW (cell_word h _ (by omega))
  have hk4 : n % 256 / 64 < 4 := by omega
  have hwl := word_lt ho (n % 256 / 64)
  obtain ⟨T, hT⟩ : ∃ T, h.top = T := ⟨_, rfl⟩
  obtain ⟨k, hk⟩ : ∃ k, n % 256 / 64 = k := ⟨_, rfl⟩
  obtain ⟨q, hq⟩ : ∃ q, h.word (n % 256 / 64) = q := ⟨_, rfl⟩
  obtain ⟨z, hz⟩ : ∃ z, 2 ^ (n % 64) = z := ⟨_, rfl⟩
  have hzl := pow_lt n
  have HK : Hid (h.knows n = (decide (n + 256 ≤ T) || (decide (n ≤ T) && (q.testBit (n % 64))))) := by rw [← hT, ← hq]; exact rfl
  have HB : Hid (q.testBit (n % 64) = decide (q &&& z ≠ 0)) := by
    show _ = _
    rw [← hz, nat_bit, Nat.testBit_eq_decide_div_mod_eq]
    have : 0 < 2 ^ (n % 64) := Nat.two_pow_pos _
    rcases Nat.mod_two_eq_zero_or_one (q / 2 ^ (n % 64)) with e | e <;> rw [e] <;> simp
  have WD := hide (fun w => word_any n w hn)
  have BT := hide (fun w => bit_any n w hn)
  rw [hq] at c2 hwl
  rw [hk] at WD c2 hk4
  rw [hz] at BT hzl
  rw [hT] at c1 ht
  have HW := hide hW
  have BW := hide bW
  clear hW bW xW ho hT hk hq hz
  have wr64 : IntKind.i64.wrap ((T : Int) - (n : Int)) = (T : Int) - (n : Int) := by
    simp only [IntKind.wrap, IntKind.bits, IntKind.signed]
    simp
    omega
  by_cases h1 : n + 256 ≤ T
  · have HE : Hid (h.knows n = true) := by show _ = _; rw [unhide HK, decide_eq_true h1]; rfl
    have d1 : (256 : Int) ≤ (T : Int) - (n : Int) := by omega
    clear HK HB
    go_enter Try.func23, Try.ntmps23
    go_upto_region 1 with fail
    rw [unhide HW]
    refine wp_region_quiet_lit (by kernel_rfl) (by kernel_rfl) ?_
    repeat (
      with_reducible refine wpQuiet_step (fun K hK => ?_)
      go_simp
      first
        | (refine hK _ ?_; clear hK K)
        | (apply Exists.intro
           refine ⟨fun _ => ?_, hK _ ?_⟩
           (fail)
           clear hK K))
    refine wpQuiet_nil ?_
    intro _ hw'
    obtain ⟨nq, hw''⟩ := hw'
    subst hw''
    go_wp2
    go_ret
    exact ⟨by rw [unhide HE]; rfl, (unhide BW).trans ((drewN_below W _).mono (unhide BW).size)⟩
  · have d1 : ¬ (256 : Int) ≤ (T : Int) - (n : Int) := by omega
    have HE : Hid (h.knows n = (decide (n ≤ T) && decide (q &&& z ≠ 0))) := by show _ = _; rw [unhide HK, decide_eq_false h1, unhide HB]; rfl
    clear HK HB
    by_cases h2 : n ≤ T
    · have HF : Hid (h.knows n = decide (q &&& z ≠ 0)) := by show _ = _; rw [unhide HE, decide_eq_true h2]; rfl
      have d2 : (n : Int) ≤ (T : Int) := by omega
      have hk4i : (k : Int) < 4 := by omega
      clear HE
      go_enter Try.func23, Try.ntmps23
      go_upto_region 1 with fail
      rw [unhide HW]
      refine wp_region_quiet_lit (by kernel_rfl) (by kernel_rfl) ?_
      repeat (
        with_reducible refine wpQuiet_step (fun K hK => ?_)
        go_simp
        first
          | (refine hK _ ?_; clear hK K)
          | (apply Exists.intro
             refine ⟨fun _ => ?_, hK _ ?_⟩
             (first | (go_at_call 26; exact Calls.quiet_of_same (unhide WD _)) | (go_at_call 27; exact Calls.quiet_of_same (unhide BT _)))
             clear hK K))
      refine wpQuiet_nil ?_
      intro _ hw'
      obtain ⟨nq, hw''⟩ := hw'
      subst hw''
      go_wp2
      go_ret
      refine ⟨?_, (unhide BW).trans ((drewN_below W _).mono (unhide BW).size)⟩
      rw [unhide HF]
      have e : (bits BinOp.and IntKind.u64 (q : Int) (z : Int) != 0) = decide (q &&& z ≠ 0) := by
        rw [u64_and_nat q z hwl hzl]
        by_cases h : q &&& z = 0
        · simp [h]
        · simp [h]
      exact congrArg (fun b => Ending.returned (Value.bool b)) e
    · have HF : Hid (h.knows n = false) := by show _ = _; rw [unhide HE, decide_eq_false h2]; rfl
      have d2 : ¬ (n : Int) ≤ (T : Int) := by omega
      clear HE
      go_enter Try.func23, Try.ntmps23
      go_upto_region 1 with fail
      rw [unhide HW]
      refine wp_region_quiet_lit (by kernel_rfl) (by kernel_rfl) ?_
      repeat (
        with_reducible refine wpQuiet_step (fun K hK => ?_)
        go_simp
        first
          | (refine hK _ ?_; clear hK K)
          | (apply Exists.intro
             refine ⟨fun _ => ?_, hK _ ?_⟩
             (fail)
             clear hK K))
      refine wpQuiet_nil ?_
      intro _ hw'
      obtain ⟨nq, hw''⟩ := hw'
      subst hw''
      go_wp2
      go_ret
      exact ⟨by rw [unhide HF]; rfl, (unhide BW).trans ((drewN_below W _).mono (unhide BW).size)⟩

/-! ### steps of a region that draws: a call that keeps the world -/
theorem step_on {w : World} {ops : Array Oper} {o : Oper} {a : Act} {K : Act → World → Prop} {Q : Exit → Act → World → Prop} {E : Prop} (hg : o.guard = none) (h : Oper.wp Try.prog o a w K Q) :
    if Region.wanted o (yielded ops a.tmps) = true then Oper.wp Try.prog o a w K Q else E := by
  have hw : Region.wanted o (yielded ops a.tmps) = true := by simp [Region.wanted, hg]
  rw [if_pos hw]; exact h
theorem step_word {w : World} {ops : Array Oper} {o : Oper} {a : Act} {K : Act → World → Prop} {Q : Exit → Act → World → Prop} {E : Prop} (x : Operand)
    (ho : o.op = .call { callee := .value (.func 26), args := #[x], argTypes := #[3] }) (hg : o.guard = none) (n k : Nat) (hx : a.eval x = .int .i64 (n : Int))
    (hc : Calls Try.prog 26 #[.int .i64 (n : Int)] w fun e w' => e = .returned (.int .i64 (k : Int)) ∧ w' = w) (h : K (a.put o.dst (.int .i64 (k : Int))) w) :
    if Region.wanted o (yielded ops a.tmps) = true then Oper.wp Try.prog o a w K Q else E := by
  refine step_on hg ?_
  have e : (execOp a.eval o).run Try.prog w = .ok (.enter 26 #[.int .i64 (n : Int)]) w := by
    unfold execOp
    simp only [ho, resolve, invoke, Sem.run_bind, List.map_toArray, List.map_cons, List.map_nil, hx]
    simp [Act.eval, Deferred.ofValue, Result.andThen]
  unfold Oper.wp
  rw [e, Oper.upon_enter]
  refine hc.mono ?_
  rintro e w' ⟨rfl, rfl⟩
  exact h
theorem step_bit {w : World} {ops : Array Oper} {o : Oper} {a : Act} {K : Act → World → Prop} {Q : Exit → Act → World → Prop} {E : Prop} (x : Operand)
    (ho : o.op = .call { callee := .value (.func 27), args := #[x], argTypes := #[3] }) (hg : o.guard = none) (n k : Nat) (hx : a.eval x = .int .i64 (n : Int))
    (hc : Calls Try.prog 27 #[.int .i64 (n : Int)] w fun e w' => e = .returned (.int .u64 (k : Int)) ∧ w' = w) (h : K (a.put o.dst (.int .u64 (k : Int))) w) :
    if Region.wanted o (yielded ops a.tmps) = true then Oper.wp Try.prog o a w K Q else E := by
  refine step_on hg ?_
  have e : (execOp a.eval o).run Try.prog w = .ok (.enter 27 #[.int .i64 (n : Int)]) w := by
    unfold execOp
    simp only [ho, resolve, invoke, Sem.run_bind, List.map_toArray, List.map_cons, List.map_nil, hx]
    simp [Act.eval, Deferred.ofValue, Result.andThen]
  unfold Oper.wp
  rw [e, Oper.upon_enter]
  refine hc.mono ?_
  rintro e w' ⟨rfl, rfl⟩
  exact h
end Go.Proofs.Ytkanolmcaoecgaa
