/- An acceptor in memory; New, Promised, told: contracts. -/
import Derived.Test.YtijohafalcifpaaVRefuse
import Derived.Test.YtijohafalcifpaaVTwin
import Derived.Test.YtijohafalcifpaaVPure
import Derived.Maps.OwnSet
import Derived.Maps.Own
namespace Go.Proofs.Ytijohafalcifpaa
open Go.RowKit Go.Maps

theorem keyed : Keyed Try.prog 3 := int_keyed Try.underlying3
theorem zeroVt (w : World) : (zeroValue 54).run Try.prog w = .ok zvote w := by kernel_rfl
/-- an element that is held as it is. -/
def asIs (v : Value) : Option (DataW Value × List MemPlace) := some (.held v, [])
def wf64 (x : Int) : Prop := (Lit.int .i64 x).wf = true
theorem wf_range {x : Int} (h : -9223372036854775808 ≤ x ∧ x ≤ 9223372036854775807) : wf64 x := by
  unfold wf64; exact WalkArith.wf_i64 (by omega)
/-- the votes of a map. -/
def Vm (D : Nat → Prop) (w : World) (q : Nat) (f : Vf) (c : Nat) : Prop :=
  ∃ M : DataW Value, w.ownsMap Try.prog 3 asIs q c M ∧ (∀ x : Int, Maps.has M (.int .i64 x) = (f x).isSome) ∧
    ∀ (x b : Int) (e : En), f x = some (b, e) → ∃ mo mc, M.atKey (.int .i64 x) (.held zvote) = .held (.agg ((⟨x, b, e⟩ : Vt).cells (.slice mo e.ms.length mc)).toArray) ∧ Ir 0 w (.slice mo e.ms.length mc) e.ms ∧ (∀ k, (Value.slice mo e.ms.length mc).ownBlock = some k → D k) ∧ e.ms.length ≤ 1000000
/-- an acceptor at block p, its map at q: what it promised, its votes; all its memory is D's. -/
structure Ac (D : Nat → Prop) (w : World) (p q : Nat) (P : Int) (f : Vf) (c : Nat) : Prop where
  box : w.heap[p]? = some (.cells #[.int .i64 P, .map (some q)] 66 (0, 0))
  map : Vm D w q f c
  own : D p ∧ D q
  lt : ∀ k, D k → k < w.heap.size
def foot (p q : Nat) (k : Nat) : Prop := k = p ∨ k = q
theorem Vm.kp {D E : Nat → Prop} {w w' : World} {q : Nat} {f : Vf} {c : Nat} (h : Vm D w q f c) (hk : Kp E w w') (hq : ¬ E q) (hd : ∀ k, D k → ¬ E k ∨ ∀ cur fr, w.heap[k]? ≠ some (.cells cur 3 fr)) : Vm D w' q f c := by
  obtain ⟨M, ⟨es, cl, h1, h2⟩, h3, h4⟩ := h
  refine ⟨M, ⟨es, cl, hk.block h1 hq, h2⟩, h3, fun x b e hx => ?_⟩
  obtain ⟨mo, mc, k1, k2, k3, k4⟩ := h4 x b e hx
  refine ⟨mo, mc, k1, own_kept k2 fun k ho => hk.2 k (k2.lt k ho).2 (fun hE => ?_), k3, k4⟩
  obtain ⟨_, cur, fr, hc⟩ := own_tag k2 k ho
  rcases hd k (k3 k ho) with hn | hn
  · exact hn hE
  · exact hn cur fr hc
theorem Vm.mono {D E : Nat → Prop} {w : World} {q : Nat} {f : Vf} {c c' : Nat} (h : Vm D w q f c) (hd : ∀ k, D k → E k) (hc : c ≤ c') : Vm E w q f c' := by
  obtain ⟨M, h1, h3, h4⟩ := h
  refine ⟨M, h1.mono hc, h3, fun x b e hx => ?_⟩
  obtain ⟨mo, mc, k1, k2, k3, k4⟩ := h4 x b e hx
  exact ⟨mo, mc, k1, k2, fun k ho => hd k (k3 k ho), k4⟩
theorem Vm.isMap {D : Nat → Prop} {w : World} {q : Nat} {f : Vf} {c : Nat} (h : Vm D w q f c) : ∃ es cl, w.heap[q]? = some (.map es cl) := by
  obtain ⟨M, ⟨es, cl, h1, _⟩, _⟩ := h; exact ⟨es, cl, h1⟩
theorem Ac.kp {D E : Nat → Prop} {w w' : World} {p q : Nat} {P : Int} {f : Vf} {c : Nat} (h : Ac D w p q P f c) (hk : Kp E w w') (hd : ∀ k, D k → ¬ E k) : Ac D w' p q P f c :=
  ⟨hk.block h.box (hd p h.own.1), h.map.kp hk (hd q h.own.2) (fun k x => Or.inl (hd k x)), h.own, fun k x => Nat.lt_of_lt_of_le (h.lt k x) hk.size⟩
theorem Ac.below {D : Nat → Prop} {w w' : World} {p q : Nat} {P : Int} {f : Vf} {c : Nat} (h : Ac D w p q P f c) (hb : Below w.heap.size w w') : Ac D w' p q P f c := h.kp (E := fun _ => False) (Kp.of_below hb) (fun _ _ x => x)
theorem Ac.mono {D : Nat → Prop} {w : World} {p q : Nat} {P : Int} {f : Vf} {c c' : Nat} (h : Ac D w p q P f c) (hc : c ≤ c') : Ac D w p q P f c' := ⟨h.box, h.map.mono (fun _ x => x) hc, h.own, h.lt⟩
theorem Ac.ne {D : Nat → Prop} {w : World} {p q : Nat} {P : Int} {f : Vf} {c : Nat} (h : Ac D w p q P f c) : q ≠ p := fun e => by
  subst e
  obtain ⟨es, cl, h1⟩ := h.map.isMap
  have := h.box
  rw [h1] at this; cases this
/-- an acceptor's two blocks are none of votes or numbers. -/
theorem Ac.far {D : Nat → Prop} {w : World} {p q : Nat} {P : Int} {f : Vf} {c : Nat} (h : Ac D w p q P f c) {low : Nat} {ts : List TypeId} (hp : low ≤ p) (hq : low ≤ q) (ht : 66 ∉ ts) : Far low ts w (foot p q) := fun k hk _ => by
  rcases hk with rfl | rfl
  · exact ⟨hp, fun cur e fr hc => by rw [h.box] at hc; cases hc; exact ht⟩
  · obtain ⟨es, cl, h1⟩ := h.map.isMap
    exact ⟨hq, fun cur e fr hc => by rw [h1] at hc; cases hc⟩
/-- what is promised is set. -/
theorem Ac.promise {D : Nat → Prop} {w : World} {p q : Nat} {P : Int} {f : Vf} {c : Nat} (h : Ac D w p q P f c) (b : Int) : Ac D (w.setCell ⟨p, 0, none⟩ (.int .i64 b)) p q b f c := by
  have hk : Kp (fun k => k = p) w (w.setCell ⟨p, 0, none⟩ (.int .i64 b)) := Kp.setCell (D := fun k => k = p) (Kp.refl _ w) (p := ⟨p, 0, none⟩) rfl _
  refine ⟨setCell_block h.box, h.map.kp hk h.ne (fun k _ => ?_), h.own, fun k x => Nat.lt_of_lt_of_le (h.lt k x) hk.size⟩
  by_cases e : k = p
  · right
    subst e
    intro cur fr hc
    rw [h.box] at hc; cases hc
  · exact Or.inl e

theorem new_any (w : World) : Calls Try.prog 10 #[] w fun e w' => ∃ p q, e = .returned (.pointer (some ⟨p, 0, none⟩)) ∧ Ac (fun k => w.heap.size ≤ k ∧ k < w'.heap.size) w' p q 0 Vf.none 0 ∧ Below w.heap.size w w' := by
  have hmm := @run_makeMap Try.prog
  go_enter Try.func10, Try.ntmps10
  go_wp2
  go_ret
  have s1 : (w.alloc (.map #[] 0)).heap.size = w.heap.size + 1 := World.size_alloc _ _
  have b1 : Below w.heap.size w (w.alloc (.map #[] 0)) := (Below.refl _ w).alloc (Nat.le_refl _) _
  have s2 : ((w.alloc (.map #[] 0)).alloc (.cells #[.int .i64 0, .map (some w.heap.size)] 66)).heap.size = w.heap.size + 2 := by rw [World.size_alloc, s1]
  refine ⟨_, w.heap.size, rfl, ⟨?_, ⟨.map [], (World.ownsMap_made w Try.prog 3 asIs).alloc _, fun x => rfl, fun x b e hx => by cases hx⟩, ⟨⟨by omega, by omega⟩, ⟨by omega, by omega⟩⟩, fun k hk => hk.2⟩, b1.alloc (by omega) _⟩
  have := box_at (w.alloc (.map #[] 0)) (.cells #[.int .i64 0, .map (some w.heap.size)] 66)
  rw [s1] at this; exact this
theorem promised_any {D : Nat → Prop} {p q : Nat} {P : Int} {f : Vf} {c : Nat} (w : World) (h : Ac D w p q P f c) :
    Calls Try.prog 20 #[.pointer (some ⟨p, 0, none⟩)] w fun e w' => e = .returned (.int .i64 P) ∧ w' = w := by
  have c3 : w.cell? ⟨p, 0, none⟩ = some (.int .i64 P) := (cell_of_block h.box).trans rfl
  clear h
  go_enter Try.func20, Try.ntmps20
  go_wp2
  go_ret
  exact ⟨rfl, rfl⟩
/-- a slot is looked up. -/
theorem Vm.look_some {D : Nat → Prop} {w : World} {q : Nat} {f : Vf} {c : Nat} (h : Vm D w q f c) {x b : Int} {e : En} (hx : wf64 x) (hf : f x = some (b, e)) :
    ∃ mo mc, (Instr.lookup 64 (.map (some q)) (.int .i64 x) true).run Try.prog w = .ok (.tuple #[.agg #[.int .i64 x, .int .i64 b, .int .i64 e.kind, .int .i64 e.client, .int .i64 e.seq, .string e.text, .slice mo e.ms.length mc, .int .i64 e.dest], .bool true]) w ∧ Ir 0 w (.slice mo e.ms.length mc) e.ms ∧ e.ms.length ≤ 1000000 := by
  obtain ⟨M, h1, h3, h4⟩ := h
  obtain ⟨mo, mc, k1, k2, k3, k4⟩ := h4 x b e hf
  obtain ⟨v, ps, r1, r2⟩ := h1.look_ok keyed Try.underlying64 (zeroVt w) rfl (keyOf_int_mk Try.underlying3 hx)
  rw [k1] at r2
  simp only [asIs, Option.some.injEq, Prod.mk.injEq, DataW.held.injEq] at r2
  rw [h3 x, hf, r2.1] at r1
  exact ⟨mo, mc, r1, k2, k4⟩
theorem Vm.look_none {D : Nat → Prop} {w : World} {q : Nat} {f : Vf} {c : Nat} (h : Vm D w q f c) {x : Int} (hx : wf64 x) (hf : f x = none) :
    (Instr.lookup 64 (.map (some q)) (.int .i64 x) true).run Try.prog w = .ok (.tuple #[zvote, .bool false]) w := by
  obtain ⟨M, h1, h3, h4⟩ := h
  obtain ⟨v, ps, r1, r2⟩ := h1.look_ok keyed Try.underlying64 (zeroVt w) rfl (keyOf_int_mk Try.underlying3 hx)
  have hh : Maps.has M (.int .i64 x) = false := by rw [h3 x, hf]; rfl
  rw [atKey_of_not_has hh] at r2
  simp only [asIs, Option.some.injEq, Prod.mk.injEq, DataW.held.injEq] at r2
  rw [hh, r2.1] at r1
  exact r1
end Go.Proofs.Ytijohafalcifpaa
