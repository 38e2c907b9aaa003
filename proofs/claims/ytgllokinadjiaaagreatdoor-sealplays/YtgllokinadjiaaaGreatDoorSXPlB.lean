/- SealPlays: steps as they come in, New, Plain, within: in the forms that the walk wants. -/
import Derived.Test.YtgllokinadjiaaaGreatDoorSXPlA
namespace Go.Proofs.YtgllokinadjiaaaGreatDoor
open Go.RowKit Go.Maps

/-- a step, as it comes in. -/
structure Stp where
  index : Int
  eng : Int
  bits : Int
  old : List Int
  new : List Int
def Stp.cells (s : Stp) (ov mv : Value) : List Value := [.int .i64 s.index, .int .i64 s.eng, .int .i64 s.bits, ov, mv]
def StpA (w : World) (ao : Option Addr) (ss : List Stp) : Prop :=
  ∀ (i : Nat) (s : Stp), ss[i]? = some s → ∃ g off xo xc mo mc, ao = some ⟨g, off, none⟩ ∧ (∀ (j : Nat) (u : Value), (s.cells (.slice xo s.old.length xc) (.slice mo s.new.length mc))[j]? = some u → w.cell? ⟨g, off + i * 5 + j, none⟩ = some u) ∧ IntsR w xo s.old ∧ IntsR w mo s.new ∧ in64 s.index ∧ in64 s.eng
theorem StpA.at {w w' : World} {ao : Option Addr} {ss : List Stp} (h : StpA w ao ss) (hb : Below w.heap.size w w') {k : Nat} {s : Stp} (he : ss[k]? = some s) :
    ∃ g off xo xc mo mc, ao = some ⟨g, off, none⟩ ∧ w'.cell? ⟨g, off + k * 5, none⟩ = some (.int .i64 s.index) ∧ w'.cell? ⟨g, off + k * 5 + 1, none⟩ = some (.int .i64 s.eng) ∧ w'.cell? ⟨g, off + k * 5 + 2, none⟩ = some (.int .i64 s.bits) ∧ w'.cell? ⟨g, off + k * 5 + 3, none⟩ = some (.slice xo s.old.length xc) ∧ w'.cell? ⟨g, off + k * 5 + 4, none⟩ = some (.slice mo s.new.length mc) ∧ IntsR w xo s.old ∧ IntsR w mo s.new ∧ in64 s.index ∧ in64 s.eng := by
  obtain ⟨g, off, xo, xc, mo, mc, h1, h2, h3⟩ := h k s he
  have hc : ∀ (j : Nat) (u : Value), (s.cells (.slice xo s.old.length xc) (.slice mo s.new.length mc))[j]? = some u → w'.cell? ⟨g, off + k * 5 + j, none⟩ = some u := fun j u hj => (hb.cell (blk_lt (h2 j u hj))).trans (h2 j u hj)
  exact ⟨g, off, xo, xc, mo, mc, h1, hc 0 _ rfl, hc 1 _ rfl, hc 2 _ rfl, hc 3 _ rfl, hc 4 _ rfl, h3⟩
/-- New of anything: what is told. -/
theorem new_tells (w : World) (n e b : Int) (xo mo : Option Addr) (xn xc m mc : Nat) (old new : List Int) (hno : old.length = xn) (hnn : new.length = m) (hlo : xn ≤ 1000) (hln : m ≤ 1000) (ho : IntsR w xo old) (hw : IntsR w mo new) :
    Calls Tryz.prog 7 #[.agg #[.int .i64 n, .int .i64 e, .int .i64 b, .slice xo xn xc, .slice mo m mc]] w fun x w' => ∃ pv, x = .returned (.tuple #[.pointer pv, .int .i64 (wrongG [] n e b old new)]) ∧ Below w.heap.size w w' := by
  by_cases h0 : wrongG [] n e b old new = 0
  · rw [h0]
    refine (new_ok w ⟨n, e, b, new⟩ xo mo xn xc m mc old hno hnn (by omega) (by omega) ho hw h0).mono ?_
    rintro x w' ⟨p, D, rfl, -, -, hb⟩
    exact ⟨_, rfl, hb⟩
  · refine (new_no w n e b xo mo xn xc m mc old new hno hnn (by omega) (by omega) ho hw h0).mono ?_
    rintro x w' ⟨rfl, hb⟩
    exact ⟨_, rfl, hb⟩
theorem xnew_tells (w : World) (g : Gn) (xo mo : Option Addr) (xn xc m mc : Nat) (old : List Int) (hno : old.length = xn) (hnn : g.ms.length = m) (hlo : xn ≤ 1000) (hln : m ≤ 1000) (ho : IntsR w xo old) (hw : IntsR w mo g.ms) :
    Calls Tryz.prog 8 #[.agg #[.int .i64 g.n, .int .i64 g.eng, .int .i64 g.base, .slice xo xn xc, .slice mo m mc]] w fun x w' => ∃ pv, x = .returned (.tuple #[.pointer pv, .int .i64 (wrongG [] g.n g.eng g.base old g.ms)]) ∧ Below w.heap.size w w' := by
  refine (xnew_any (fun k => k < w.heap.size) 0 w (Nat.zero_le _) g xo mo xn xc m mc old hno hnn hlo hln ho hw.inF).mono ?_
  rintro x w' ⟨hb, h1, h2⟩
  by_cases h0 : wrongG [] g.n g.eng g.base old g.ms = 0
  · obtain ⟨p, rv, rfl, -⟩ := h2 h0
    exact ⟨_, by rw [h0], hb⟩
  · exact ⟨_, h1 h0, hb⟩
/-- a call of Plain. -/
theorem step_call {w : World} {ops : Array Oper} {o : Oper} {a : Act} {K : Act → World → Prop} {Q : Exit → Act → World → Prop} {E : Prop} (x : Operand)
    (ho : o.op = .call { callee := .value (.func 10), args := #[x], argTypes := #[3] }) (hg : o.guard = none) (s : Value) (hx : a.eval x = s) (R : Value → World → Prop)
    (hc : Calls Tryz.prog 10 #[s] w fun e w' => ∃ r, e = .returned r ∧ R r w') (h : ∀ r w', R r w' → K (a.put o.dst r) w') :
    if Region.wanted o (yielded ops a.tmps) = true then Oper.wp Tryz.prog o a w K Q else E := by
  refine step_on hg ?_
  have e1 : (execOp a.eval o).run Tryz.prog w = .ok (.enter 10 #[s]) w := by
    unfold execOp
    simp only [ho, resolve, invoke, Sem.run_bind, List.map_toArray, List.map_cons, List.map_nil, hx]
    simp [Act.eval, Deferred.ofValue, Result.andThen]
  unfold Oper.wp
  rw [e1, Oper.upon_enter]
  refine hc.mono ?_
  rintro e w' ⟨r, rfl, h2⟩
  exact h r w' h2
theorem step_within17 {w : World} {ops : Array Oper} {o : Oper} {a : Act} {K : Act → World → Prop} {Q : Exit → Act → World → Prop} {E : Prop} (x : Operand) (m : Int)
    (ho : o.op = .call { callee := .value (.func 9), args := #[x, .const (.int .i64 m)], argTypes := #[3, 3] }) (hg : o.guard = none) (n : Int) (hx : a.eval x = .int .i64 n) (r : Int)
    (hc : Calls Tryz.prog 9 #[.int .i64 n, .int .i64 m] w fun e w' => e = .returned (.int .i64 r) ∧ w' = w) (h : K (a.put o.dst (.int .i64 r)) w) :
    if Region.wanted o (yielded ops a.tmps) = true then Oper.wp Tryz.prog o a w K Q else E := by
  refine step_on hg ?_
  have e1 : (execOp a.eval o).run Tryz.prog w = .ok (.enter 9 #[.int .i64 n, .int .i64 m]) w := by
    unfold execOp
    simp only [ho, resolve, invoke, Sem.run_bind, List.map_toArray, List.map_cons, List.map_nil, hx]
    simp [Act.eval, Deferred.ofValue, Result.andThen]
  unfold Oper.wp
  rw [e1, Oper.upon_enter]
  refine hc.mono ?_
  rintro e w' ⟨rfl, rfl⟩
  exact h
/-- within, its answer by a letter. -/
theorem within17 (n : Int) (m : Nat) (h1 : 0 < m) (h2 : m ≤ 1000000000) : ∃ k : Nat, k < m ∧ ∀ w, Calls Tryz.prog 9 #[.int .i64 n, .int .i64 (m : Int)] w fun ev w' => ev = .returned (.int .i64 (k : Int)) ∧ w' = w := by
  have hb := Int.emod_nonneg n (show (m : Int) ≠ 0 by omega)
  have hl := Int.emod_lt_of_pos n (show (0 : Int) < m by omega)
  refine ⟨(n % (m : Int)).toNat, by omega, fun w => ?_⟩
  rw [show (((n % (m : Int)).toNat : Nat) : Int) = n % (m : Int) by omega]
  exact within_any n m w (by omega) (by omega)
/-- members by their bits, in memory of the call's own. -/
theorem plain_own (bits : Int) : ∃ ms, Pl ms ∧ ∀ w, Calls Tryz.prog 10 #[.int .i64 bits] w fun e w' => ∃ r, e = .returned r ∧ ∃ an c, r = .agg #[.slice none 0 0, .slice an ms.length c] ∧ InF (fun k => w.heap.size ≤ k) w' an ms ∧ Below w.heap.size w w' :=
  ⟨_, ⟨plain_Up _, plain_len _, plain_ne _⟩, fun w => (plain_new bits w).mono (fun e w' h => by
    obtain ⟨an, n, c, h1, h2, h3, h4, h5, h6⟩ := h
    refine ⟨_, h1, an, c, by rw [h2], fun i hi => ?_, h5⟩
    obtain ⟨a, e1, e2⟩ := h4.1 i hi
    exact ⟨a, e1, h6 a e1, e2⟩)⟩
theorem InF.old {G : Nat → Prop} {w Y : World} {ao : Option Addr} {ys : List Int} (h : InF G w ao ys) (hY : Below w.heap.size w Y) : InF (fun k => k < w.heap.size) Y ao ys := fun i hi => by
  obtain ⟨a, e1, -, e3⟩ := h i hi
  exact ⟨a, e1, by have := blk_lt e3; rwa [add_block] at this, (hY.cell (blk_lt e3)).trans e3⟩
/-- a configuration in a box of its own, its lists in watched blocks. -/
structure CfgAt (F : Nat → Prop) (wo : World) (B : Nat) (wc : World) (xo mo : Option Addr) (xn xc m mc : Nat) (old new : List Int) : Prop where
  box : wc.heap[B]? = some (.cells #[.slice xo xn xc, .slice mo m mc] 24 (0, 0))
  lo : old.length = xn
  ln : new.length = m
  bo : xn ≤ 1000
  bn : m ≤ 1000
  io : InF (fun k => F k ∨ (wo.heap.size ≤ k ∧ k < wc.heap.size)) wc xo old
  im : InF (fun k => F k ∨ (wo.heap.size ≤ k ∧ k < wc.heap.size)) wc mo new
  bl : Below wo.heap.size wo wc
theorem two_put {y : World} {B : Nat} {a b x0 x1 : Value} {t : TypeId} (hz : y.heap[B]? = some (.cells #[x0, x1] t (0, 0))) : ((y.setCell ⟨B, 0, none⟩ a).setCell ⟨B, 1, none⟩ b).heap[B]? = some (.cells #[a, b] t (0, 0)) := setCell_block (setCell_block hz)
theorem two_kp (y : World) (B : Nat) (a b : Value) : Kp (fun k => k = B) y ((y.setCell ⟨B, 0, none⟩ a).setCell ⟨B, 1, none⟩ b) := ((Kp.refl (fun k => k = B) y).setCell (p := ⟨B, 0, none⟩) rfl a).setCell (p := ⟨B, 1, none⟩) rfl b
end Go.Proofs.YtgllokinadjiaaaGreatDoor
