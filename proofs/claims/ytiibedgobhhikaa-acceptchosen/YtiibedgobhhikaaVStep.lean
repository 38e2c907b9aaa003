/- append of votes inside a region that draws its order. -/
import Derived.Test.YtiibedgobhhikaaVTold
import Derived.Deep.RegionLaw
namespace Go.Proofs.Ytiibedgobhhikaa
open Go.RowKit Go.Maps

theorem step_on {w : World} {ops : Array Oper} {o : Oper} {a : Act} {K : Act → World → Prop} {Q : Exit → Act → World → Prop} {E : Prop} (hg : o.guard = none) (h : Oper.wp Try.prog o a w K Q) :
    if Region.wanted o (yielded ops a.tmps) = true then Oper.wp Try.prog o a w K Q else E := by
  have hw : Region.wanted o (yielded ops a.tmps) = true := by simp [Region.wanted, hg]
  rw [if_pos hw]; exact h
theorem step_appV {ts : TypeId} {w : World} {ops : Array Oper} {o : Oper} {a : Act} {K : Act → World → Prop} {Q : Exit → Act → World → Prop} {E : Prop} (s x : Operand) (_ho : o.op = .call { callee := .builtin .append, args := #[s, x], argTypes := #[ts, ts] }) (hg : o.guard = none) (h : Oper.wp Try.prog o a w K Q) :
    if Region.wanted o (yielded ops a.tmps) = true then Oper.wp Try.prog o a w K Q else E := step_on hg h
theorem wp_appV {T ts : TypeId} (hu : Try.prog.underlying ts = some (.slice T)) (hT : T ≠ 3) (hz : (Try.prog.info? T).map (fun i => (i.zero, i.size, i.bytes)) = some (some zvote, 8, 88)) {w : World} {o : Oper} {a : Act} {K : Act → World → Prop} {Q : Exit → Act → World → Prop} (s x : Operand)
    (ho : o.op = .call { callee := .builtin .append, args := #[s, x], argTypes := #[ts, ts] }) (low base : Nat) (hlb : low ≤ base) (v : Value) (vs : List Vt) (hs : a.eval s = v) (h : VRow T low base w v vs)
    (ao : Option Addr) (m c : Nat) (us : List Vt) (hx : a.eval x = .slice ao m c) (hm : us.length = m) (hr : VsR low base w ao us) (hl : vs.length + m ≤ 1000000) (hb : base ≤ w.heap.size)
    (hk : ∀ v' w', VRow T low base w' v' (vs ++ us) → w.grownBy w' v.ownBlock → K (a.put o.dst v') w') : Oper.wp Try.prog o a w K Q := by
  obtain ⟨v', w', hrun, h1, h2⟩ := run_appV hu hT hz hlb h o.type ao m c us hm hr hl hb
  unfold Oper.wp execOp
  simp only [ho, resolve, invoke, builtin, Sem.run_bind, Sem.run_pure, Result.andThen_ok, List.map_toArray, List.map_cons, List.map_nil, hs, hx, hrun]
  exact hk v' w' h1 h2
/-- a vote that was built, in its own new block. -/
theorem src_one {low base : Nat} {w y : World} (hb : Below w.heap.size w y) (v : Vt) {mo : Option Addr} {mc : Nat} (T : TypeId) (hm : Mm low base w mo mc v.e.ms) (hl : v.e.ms.length ≤ 1000000) :
    VsR low base (y.alloc (.cells #[.int .i64 v.slot, .int .i64 v.ballot, .int .i64 v.e.kind, .int .i64 v.e.client, .int .i64 v.e.seq, .string v.e.text, .slice mo v.e.ms.length mc, .int .i64 v.e.dest] T)) (some ⟨y.heap.size, 0, none⟩) [v] :=
  VsR.one (v := v) (box_at _ _) (hm.below (below_far hb ((Below.refl _ _).alloc (Nat.le_refl _) _))) hl
end Go.Proofs.Ytiibedgobhhikaa
