/- A link in memory: its two maps, what is kept; New, Life, Refused, Stamp: contracts. -/
import Derived.Test.YtkanolmcaoecgaaLRefuse
import Derived.Maps.OwnSet
import Derived.Maps.Own
namespace Go.Proofs.Ytkanolmcaoecgaa
open Go.RowKit Go.Maps

theorem keyed : Keyed Try.prog 3 := int_keyed Try.underlying3
theorem zeroInt (w : World) : (zeroValue 3).run Try.prog w = .ok (.int .i64 0) w := by kernel_rfl
theorem zeroHeard (w : World) : (zeroValue 59).run Try.prog w = .ok (.agg Hd.none.cells) w := by kernel_rfl
/-- an element that is held as it is. -/
def asIs (v : Value) : Option (DataW Value × List MemPlace) := some (.held v, [])
def wf64 (x : Int) : Prop := (Lit.int .i64 x).wf = true

/-- a link at block p, its maps at blocks s and q: its life, the last number to each peer, what was heard of each, how often it refused; c bounds them. -/
def Lk (w : World) (p s q : Nat) (life : Int) (sent : Int → Nat) (heard : Int → Hd) (ref c : Nat) : Prop :=
  ∃ (Ds : DataW Unit) (Dh : DataW Value), w.heap[p]? = some (.cells #[.int .i64 life, .map (some s), .map (some q), .int .i64 (ref : Int)] 53 (0, 0)) ∧ s ≠ q ∧
    w.ownsMap Try.prog 3 (plainElem Try.prog 3) s c Ds ∧ w.ownsMap Try.prog 3 asIs q c Dh ∧
    (∀ x : Int, Ds.atKey (.int .i64 x) (.lit (.int .i64 0)) = .lit (.int .i64 (sent x : Int))) ∧ (∀ x : Int, Dh.atKey (.int .i64 x) (.held (.agg Hd.none.cells)) = .held (.agg (heard x).cells)) ∧
    (∀ x, sent x ≤ c) ∧ (∀ x, (heard x).ok) ∧ ref ≤ c

theorem Lk.kept {w w' : World} {p s q : Nat} {life : Int} {sent : Int → Nat} {heard : Int → Hd} {ref c : Nat} (h : Lk w p s q life sent heard ref c)
    (h1 : w'.heap[p]? = w.heap[p]?) (h2 : w'.heap[s]? = w.heap[s]?) (h3 : w'.heap[q]? = w.heap[q]?) : Lk w' p s q life sent heard ref c := by
  obtain ⟨Ds, Dh, a1, a2, ⟨es, cl, b1, b2⟩, ⟨fs, dl, d1, d2⟩, r⟩ := h
  exact ⟨Ds, Dh, by rw [h1]; exact a1, a2, ⟨es, cl, by rw [h2]; exact b1, b2⟩, ⟨fs, dl, by rw [h3]; exact d1, d2⟩, r⟩
theorem Lk.lt {w : World} {p s q : Nat} {life : Int} {sent : Int → Nat} {heard : Int → Hd} {ref c : Nat} (h : Lk w p s q life sent heard ref c) : p < w.heap.size ∧ s < w.heap.size ∧ q < w.heap.size := by
  obtain ⟨Ds, Dh, a1, a2, b, d, r⟩ := h
  exact ⟨blk_lt' a1, b.lt, d.lt⟩
theorem Lk.below {w w' : World} {p s q : Nat} {life : Int} {sent : Int → Nat} {heard : Int → Hd} {ref c : Nat} (h : Lk w p s q life sent heard ref c) (hb : Below w.heap.size w w') : Lk w' p s q life sent heard ref c :=
  h.kept (hb.block _ h.lt.1) (hb.block _ h.lt.2.1) (hb.block _ h.lt.2.2)
/-- the blocks of a link. -/
def foot (p s q : Nat) (k : Nat) : Prop := k = p ∨ k = s ∨ k = q
theorem Lk.other {w w' : World} {base : Nat} {p s q p' s' q' : Nat} {life : Int} {sent : Int → Nat} {heard : Int → Hd} {ref c : Nat} (h : Lk w p s q life sent heard ref c) (hk : Kept base (foot p' s' q') w w')
    (h1 : ¬ foot p' s' q' p) (h2 : ¬ foot p' s' q' s) (h3 : ¬ foot p' s' q' q) : Lk w' p s q life sent heard ref c :=
  h.kept (hk.2 _ h.lt.1 h1) (hk.2 _ h.lt.2.1 h2) (hk.2 _ h.lt.2.2 h3)
theorem Lk.mono {w : World} {p s q : Nat} {life : Int} {sent : Int → Nat} {heard : Int → Hd} {ref c c' : Nat} (h : Lk w p s q life sent heard ref c) (hc : c ≤ c') : Lk w p s q life sent heard ref c' := by
  obtain ⟨Ds, Dh, a1, a2, a3, a4, a5, a6, a7, a8, a9⟩ := h
  exact ⟨Ds, Dh, a1, a2, a3.mono hc, a4.mono hc, a5, a6, fun x => Nat.le_trans (a7 x) hc, a8, Nat.le_trans a9 hc⟩

theorem new_any (self life : Int) (w : World) : Calls Try.prog 10 #[.int .i64 self, .int .i64 life] w fun e w' => e = .returned (.pointer (some ⟨w.heap.size + 2, 0, none⟩)) ∧ Lk w' (w.heap.size + 2) w.heap.size (w.heap.size + 1) life (fun _ => 0) (fun _ => Hd.none) 0 0 ∧ Below w.heap.size w w' ∧ w'.heap.size = w.heap.size + 3 := by
  have hmm := @run_makeMap Try.prog
  go_enter Try.func10, Try.ntmps10
  go_wp2
  go_ret
  have s1 : (w.alloc (.map #[] 0)).heap.size = w.heap.size + 1 := World.size_alloc _ _
  have s2 : ((w.alloc (.map #[] 0)).alloc (.map #[] 0)).heap.size = w.heap.size + 2 := by rw [World.size_alloc, s1]
  have b1 : Below w.heap.size w (w.alloc (.map #[] 0)) := (Below.refl _ w).alloc (Nat.le_refl _) _
  have b2 : Below w.heap.size w ((w.alloc (.map #[] 0)).alloc (.map #[] 0)) := b1.alloc (by omega) _
  refine ⟨rfl, ⟨.map [], .map [], ?_, by omega, ?_, ?_, fun x => rfl, fun x => rfl, fun _ => Nat.le_refl _, fun _ => ⟨Nat.two_pow_pos 63, Nat.two_pow_pos 63, Nat.two_pow_pos 64, Nat.two_pow_pos 64, Nat.two_pow_pos 64, Nat.two_pow_pos 64⟩, Nat.le_refl _⟩, b2.alloc (by omega) _, by rw [World.size_alloc, s2]⟩
  · rw [← s2]; exact heap_alloc_new _ _
  · exact ((World.ownsMap_made w Try.prog 3 _).alloc _).alloc _
  · have := (World.ownsMap_made (w.alloc (.map #[] 0)) Try.prog 3 asIs).alloc (.cells #[.int .i64 life, .map (some w.heap.size), .map (some (w.heap.size + 1)), .int .i64 0] 53)
    rw [s1] at this; exact this

theorem refused_any {p s q : Nat} {life : Int} {sent : Int → Nat} {heard : Int → Hd} {ref c : Nat} (w : World) (h : Lk w p s q life sent heard ref c) :
    Calls Try.prog 17 #[.pointer (some ⟨p, 0, none⟩)] w fun e w' => e = .returned (.int .i64 (ref : Int)) ∧ w' = w := by
  obtain ⟨Ds, Dh, a1, _⟩ := h
  have c3 : w.cell? ⟨p, 3, none⟩ = some (.int .i64 (ref : Int)) := bcell a1 rfl
  clear a1
  go_enter Try.func17, Try.ntmps17
  go_wp2
  go_ret
  exact ⟨rfl, rfl⟩

theorem look_heard {w : World} {q c : Nat} {Dh : DataW Value} {x : Int} {g : Hd} (h : w.ownsMap Try.prog 3 asIs q c Dh) (hx : wf64 x) (hg : Dh.atKey (.int .i64 x) (.held (.agg Hd.none.cells)) = .held (.agg g.cells)) :
    (Instr.lookup 51 (.map (some q)) (.int .i64 x) false).run Try.prog w = .ok (.agg g.cells) w := by
  obtain ⟨v, ps, h1, h2⟩ := h.lookup keyed Try.underlying51 (zeroHeard w) rfl (keyOf_int_mk Try.underlying3 hx)
  rw [hg] at h2
  simp only [asIs, Option.some.injEq, Prod.mk.injEq, DataW.held.injEq] at h2
  rw [← h2.1]; exact h1
theorem look_sent {w : World} {s c n : Nat} {Ds : DataW Unit} {x : Int} (h : w.ownsMap Try.prog 3 (plainElem Try.prog 3) s c Ds) (hx : wf64 x) (hg : Ds.atKey (.int .i64 x) (.lit (.int .i64 0)) = .lit (.int .i64 (n : Int))) :
    (Instr.lookup 50 (.map (some s)) (.int .i64 x) false).run Try.prog w = .ok (.int .i64 (n : Int)) w := by
  obtain ⟨v, h1, h2, _⟩ := h.lookup_int keyed Try.underlying50 Try.underlying3 (zeroInt w) (keyOf_int_mk Try.underlying3 hx)
  rw [hg] at h2
  simp only [DataW.lit.injEq, Lit.int.injEq, true_and] at h2
  rw [h2]; exact h1

theorem field_life (a : Int) (v1 v2 v3 v4 v5 : Value) (w : World) : (Instr.field 59 (.agg #[.int .i64 a, v1, v2, v3, v4, v5]) 0).run Try.prog w = .ok (.int .i64 a) w := by kernel_rfl
set_option maxRecDepth 20000 in
theorem life_any {p s q : Nat} {life : Int} {sent : Int → Nat} {heard : Int → Hd} {ref c : Nat} (x : Int) (w : World) (hx : wf64 x) (h : Lk w p s q life sent heard ref c) :
    Calls Try.prog 15 #[.pointer (some ⟨p, 0, none⟩), .int .i64 x] w fun e w' => e = .returned (.int .i64 ((heard x).life : Int)) ∧ w' = w := by
  obtain ⟨Ds, Dh, a1, a2, a3, a4, a5, a6, a7⟩ := h
  have c2 : w.cell? ⟨p, 2, none⟩ = some (.map (some q)) := bcell a1 rfl
  have lk := look_heard a4 hx (a6 x)
  simp only [Hd.cells] at lk
  have fl := field_life
  clear a1 a2 a3 a4 a5 a6 a7 hx
  go_enter Try.func15, Try.ntmps15
  go_wp2
  go_ret
  exact ⟨rfl, rfl⟩

def up (f : Int → Nat) (x : Int) (v : Nat) (y : Int) : Nat := if y = x then v else f y
def upH (f : Int → Hd) (x : Int) (v : Hd) (y : Int) : Hd := if y = x then v else f y
theorem wf_nat {n : Nat} (h : n < 9223372036854775808) : wf64 (n : Int) := by
  unfold wf64; exact WalkArith.wf_i64 (by omega)

set_option maxRecDepth 20000 in
set_option maxHeartbeats 1000000 in
theorem stamp_any {base p s q : Nat} {life : Int} {sent : Int → Nat} {heard : Int → Hd} {ref c : Nat} (x : Int) (w : World) (hx : wf64 x) (hc : c < 1000000) (hb : base ≤ p ∧ base ≤ s ∧ base ≤ q) (hbase : base ≤ w.heap.size) (h : Lk w p s q life sent heard ref c) :
    Calls Try.prog 11 #[.pointer (some ⟨p, 0, none⟩), .int .i64 x] w fun e w' => e = .returned (.tuple #[.int .i64 life, .int .i64 ((sent x + 1 : Nat) : Int)]) ∧ Lk w' p s q life (up sent x (sent x + 1)) heard ref (c + 1) ∧ Kept base (foot p s q) w w' := by
  obtain ⟨Ds, Dh, a1, a2, a3, a4, a5, a6, a7, a8, a9⟩ := h
  have c0 : w.cell? ⟨p, 0, none⟩ = some (.int .i64 life) := bcell a1 rfl
  have c1 : w.cell? ⟨p, 1, none⟩ = some (.map (some s)) := bcell a1 rfl
  have lk := look_sent a3 hx (a5 x)
  have hs := a7 x
  obtain ⟨n, hn⟩ : ∃ n, sent x = n := ⟨_, rfl⟩
  obtain ⟨m, hm⟩ : ∃ m, sent x + 1 = m := ⟨_, rfl⟩
  rw [hm]
  rw [hn] at lk hs hm
  have e1 : ((n : Int) + 1) = (m : Int) := by omega
  have w1 : wf64 (m : Int) := wf_nat (by omega)
  obtain ⟨W, hrun, own, grow⟩ := a3.update keyed Try.underlying50 (by unfold maxLen; omega) (keyOf_int_mk Try.underlying3 hx) (plainElem_int Try.underlying3 w1)
  have hps : p ≠ s := fun e => by subst e; obtain ⟨es, cl, g1, _⟩ := a3; rw [a1] at g1; cases g1
  have bP : W.heap[p]? = w.heap[p]? := grow.block p (blk_lt' a1) (by simpa using hps)
  have bQ : W.heap[q]? = w.heap[q]? := grow.block q a4.lt (by simpa using a2.symm)
  have d0 : W.cell? ⟨p, 0, none⟩ = some (.int .i64 life) := bcell (bP.trans a1) rfl
  have d1 : W.cell? ⟨p, 1, none⟩ = some (.map (some s)) := bcell (bP.trans a1) rfl
  have at' : ∀ y : Int, (Ds.put (.int .i64 x) (.lit (.int .i64 (m : Int)))).atKey (.int .i64 y) (.lit (.int .i64 0)) = .lit (.int .i64 (up sent x m y : Int)) := fun y => by
    unfold up
    by_cases e : y = x
    · rw [if_pos e, e, atKey_put_same a3.isMap (by simp [WideAt.IsKeyLit])]
    · rw [if_neg e, atKey_put_other (by simpa using e), a5 y]
  have lk2 := fun k => look_sent (w := W.drewN k) own hx ((at' x).trans (by unfold up; rw [if_pos rfl]))
  have LK : Hid (Lk W p s q life (up sent x m) heard ref (c + 1)) := by
    refine ⟨_, Dh, bP.trans a1, a2, own, ?_, at', a6, fun y => ?_, a8, by omega⟩
    · obtain ⟨fs, dl, g1, g2⟩ := a4.mono (Nat.le_succ c)
      exact ⟨fs, dl, bQ.trans g1, g2⟩
    · unfold up; split
      · omega
      · have := a7 y; omega
  have KP : Hid (Kept base (foot p s q) w W) := by
    refine ⟨(Below.refl _ w).grown grow hbase (fun k hk => by cases hk; exact hb.2.1), fun k hk hn => grow.block k hk (fun e => hn (Or.inr (Or.inl (by simpa using e))))⟩
  have wr1 : IntKind.i64.wrap (m : Int) = (m : Int) := by
    simp only [IntKind.wrap, IntKind.bits, IntKind.signed]
    simp
    omega
  clear a1 a2 a3 a4 a5 a6 a7 a8 a9 own grow bP bQ at' hn hm w1 hx hs
  go_enter Try.func11, Try.ntmps11
  go_upto_region 2 with fail
  go_quiet (fail)
  go_wp2
  go_ret2
  exact ⟨rfl, (unhide LK).below (drewN_below W _), (unhide KP).1.trans ((drewN_below W _).mono (Nat.le_trans hbase (unhide KP).size)), (unhide KP).2⟩
end Go.Proofs.Ytkanolmcaoecgaa
