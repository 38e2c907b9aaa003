/- slices.Backward over generations: what it hands back, at whatever loop body. -/
import Derived.RangeFuncNested
import Derived.RangeFuncBound
import Derived.RangeFuncCalls
import Derived.RangeFuncLeaves
import Derived.Shelf.Abstract
import Derived.Shelf.RegionOpen
import Derived.WalkKit
import Derived.OwnWalkIn
import Derived.TacticsInMore
import Derived.LoopNIn
import Derived.LoopIn
import Derived.Test.YtgllokinadjiaaaSAll
namespace Go.Proofs.Ytgllokinadjiaaa
open Go.RowKit Go.Shelf
attribute [local go_sem] Oper.semAt_some

/-- the first rounds: from the last place on. -/
def downs (n j : Nat) : List (Fin n) := (List.finRange n).reverse.take j
theorem downs_zero (n : Nat) : downs n 0 = [] := by simp [downs]
theorem downs_len {n j : Nat} (h : j ≤ n) : (downs n j).length = j := by simp [downs, h]
theorem downs_succ {n m : Nat} (hm : m < n) : downs n (n - m) = downs n (n - (m + 1)) ++ [⟨m, hm⟩] := by
  unfold downs
  have hl : n - (m + 1) < (List.finRange n).reverse.length := by simp; omega
  rw [show n - m = n - (m + 1) + 1 by omega, List.take_succ_eq_append_getElem hl]
  congr 1
  rw [List.getElem_reverse]
  simp only [List.getElem_finRange, List.length_finRange, List.cons.injEq, and_true]
  apply Fin.ext
  simp
  omega
def genEnc {n : Nat} (G : Fin n → Value) (x : Fin n) : Array Value := #[.int .i64 ((x.1 : Nat) : Int), G x]

set_option maxRecDepth 100000 in
set_option maxHeartbeats 2000000 in
theorem backward1_in (n l Bs n₀ b cap N : Nat) (hN : N ≤ 1000000) (hn : 1 ≤ n) (gs : Fin N → Int × Int × Int × Value) (hb : b < n₀) (J Jx : List (Fin N) → World → Prop)
    (hY : ∀ pre x W, J pre W → pre.length < N → YieldAt Fence.wide (n - 1) Try.prog l (genEnc (fun x => .agg #[.int .i64 (gs x).1, .int .i64 (gs x).2.1, .int .i64 (gs x).2.2.1, .slice none 0 0, (gs x).2.2.2]) x) W fun e W' =>
      (e = .returned (.bool true) ∧ J (pre ++ [x]) W' ∧ Below n₀ W W') ∨ (e = .returned (.bool false) ∧ Jx (pre ++ [x]) W'))
    (W : World) (_hBl : Bs < W.heap.size) (hBs : W.cell? ⟨Bs, 0, none⟩ = some (.slice (some ⟨b, 0, none⟩) N cap)) (hBn : Bs < n₀)
    (hc : ∀ x : Fin N, W.cell? ⟨b, x.1 * 5, none⟩ = some (.int .i64 (gs x).1) ∧ W.cell? ⟨b, x.1 * 5 + 1, none⟩ = some (.int .i64 (gs x).2.1) ∧ W.cell? ⟨b, x.1 * 5 + 2, none⟩ = some (.int .i64 (gs x).2.2.1) ∧ W.cell? ⟨b, x.1 * 5 + 3, none⟩ = some (.slice none 0 0) ∧ W.cell? ⟨b, x.1 * 5 + 4, none⟩ = some (gs x).2.2.2) (h0 : J [] W) :
    CallsIn Fence.wide n Try.prog 28 #[.func (.yield l) #[] #[], .pointer (some ⟨Bs, 0, none⟩)] W fun e W' => (∃ v, e = .returned v) ∧
      ((∃ ys, ys = downs N N ∧ J ys W') ∨ (∃ pre, (∃ j, j ≤ N ∧ pre = downs N j) ∧ Jx pre W')) := by
  have hw1 : IntKind.i64.wrap ((N : Int) - 1) = (N : Int) - 1 := IntWalk.i64_in _ (by omega)
  refine callsIn_of_wp Try.func28 rfl trivial ?_ rfl
  simp only [Try.ntmps28, List.size_toArray, List.length_cons, List.length_nil, Nat.reduceAdd, Nat.reduceSub, Array.replicate_succ, Array.replicate_zero, List.push_toArray, List.append_toArray, List.nil_append, List.cons_append]
  gi_wp2
  gi_loopw [3] (fun i wr => ∃ (k : Nat) (z : Int), k ≤ N ∧ i = .int .i64 z ∧ z = (k : Int) - 1 ∧ J (downs N (N - k)) wr ∧ Below n₀ W wr)
    (fun i _ => (intOf i + 1).toNat)
  case atStart => exact ⟨N, _, Nat.le_refl _, rfl, rfl, by rw [Nat.sub_self, downs_zero]; exact h0, Below.refl _ _⟩
  case round =>
    obtain ⟨k, z, hk, rfl, hz, hJs, hnx⟩ := hrel
    have hbs := (hnx.cell (p := ⟨Bs, 0, none⟩) hBn).trans hBs
    cases k with
    | zero =>
      have hq : z < 0 := by omega
      clear hz
      gi_wp2
      go_end0
      exact ⟨⟨_, rfl⟩, .inl ⟨_, rfl, by simpa using hJs⟩⟩
    | succ m =>
      obtain rfl : z = (m : Int) := by omega
      have hm : m < N := by omega
      obtain ⟨d0, d1, d2, d3, d4⟩ := hc ⟨m, hm⟩
      have e0 := (hnx.cell (p := ⟨b, m * 5, none⟩) hb).trans d0
      have e1 := (hnx.cell (p := ⟨b, m * 5 + 1, none⟩) hb).trans d1
      have e2 := (hnx.cell (p := ⟨b, m * 5 + 2, none⟩) hb).trans d2
      have e3 := (hnx.cell (p := ⟨b, m * 5 + 3, none⟩) hb).trans d3
      have e4 := (hnx.cell (p := ⟨b, m * 5 + 4, none⟩) hb).trans d4
      obtain ⟨fn, tmps, assign, body, hy, hR⟩ := hY _ ⟨m, hm⟩ wr hJs (by rw [downs_len (by omega)]; omega)
      have hw2 : IntKind.i64.wrap ((m : Int) - 1) = (m : Int) - 1 := IntWalk.i64_in _ (by omega)
      have q1 : (m : Int) < (N : Int) := by omega
      unfold genEnc at hy
      dsimp only at hy
      obtain ⟨⟨y0, y1, y2, y3⟩, hyy⟩ : ∃ y, gs ⟨m, hm⟩ = y := ⟨_, rfl⟩
      rw [hyy] at e0 e1 e2 e4 hy
      dsimp only at e0 e1 e2 e4 hy
      have HC := hide hc
      have HZ := hide hz
      clear hc d0 d1 d2 d3 d4 hyy hz
      gi_wp2
      refine hR.mono ?_
      rintro e W3 (⟨rfl, hJ3, hk3⟩ | ⟨rfl, hJx3⟩)
      · gi_wp2
        go_roundw
        case rel => exact ⟨m, _, by omega, rfl, rfl, by rw [downs_succ hm]; exact hJ3, hnx.trans hk3⟩
        case measure => simp [intOf]
      · gi_wp2
        refine bodyPost_ret (results_none rfl _ _ _) rfl ?_
        exact ⟨⟨_, rfl⟩, .inr ⟨_, ⟨N - m, by omega, (downs_succ hm).symm⟩, hJx3⟩⟩
end Go.Proofs.Ytgllokinadjiaaa
