/- Votes by slots, what is told of them, which one is picked: plain lists. An acceptor in memory; New, Promised, told: contracts. accept: told, Votes: contracts. accept: Votes, Prepare: contracts. -/
import Derived.Test.YtjplhiflemmkfaaGreatDoorAaVBase
import Derived.Maps.OwnSet
import Derived.Maps.Own
namespace Go.Proofs.YtjplhiflemmkfaaGreatDoor.Aa

/-- what was accepted, by slots: a ballot and an entry. -/
abbrev Vf := Int → Option (Int × En)
def Vf.none : Vf := fun _ => Option.none
def Vf.at (f : Vf) (s : Int) : List Vt := match f s with
  | some be => [⟨s, be.1, be.2⟩]
  | Option.none => []
def Vf.put (f : Vf) (s b : Int) (e : En) : Vf := fun x => if x = s then some (b, e) else f x
/-- the votes of n slots from a on. -/
def toldN (f : Vf) (a : Int) : Nat → List Vt
  | 0 => []
  | n + 1 => toldN f a n ++ f.at (a + n)
def toldOf (f : Vf) (frm : Int) : List Vt := toldN f (max frm 1) (65 - max frm 1).toNat
def allOf (f : Vf) : List Vt := toldN f 1 64

theorem toldN_add (f : Vf) (a : Int) (m n : Nat) : toldN f a (m + n) = toldN f a m ++ toldN f (a + m) n := by
  induction n with
  | zero => simp [toldN]
  | succ n ih =>
    rw [Nat.add_succ, toldN, ih, toldN, List.append_assoc]
    congr 2
    rw [show a + ((m + n : Nat) : Int) = a + m + n by omega]
theorem at_slot {f : Vf} {s : Int} {v : Vt} (h : v ∈ f.at s) : v.slot = s ∧ f s = some (v.ballot, v.e) := by
  unfold Vf.at at h
  split at h
  · rename_i be hbe
    simp at h; subst h
    exact ⟨rfl, hbe⟩
  · simp at h
theorem toldN_slot {f : Vf} {a : Int} {n : Nat} {v : Vt} (h : v ∈ toldN f a n) : a ≤ v.slot ∧ v.slot < a + n ∧ f v.slot = some (v.ballot, v.e) := by
  induction n with
  | zero => simp [toldN] at h
  | succ n ih =>
    rw [toldN, List.mem_append] at h
    rcases h with h | h
    · obtain ⟨h1, h2, h3⟩ := ih h; exact ⟨h1, by omega, h3⟩
    · obtain ⟨h1, h2⟩ := at_slot h
      exact ⟨by omega, by omega, by rw [h1]; exact h2⟩
theorem toldN_len (f : Vf) (a : Int) (n : Nat) : (toldN f a n).length ≤ n := by
  induction n with
  | zero => simp [toldN]
  | succ n ih =>
    rw [toldN, List.length_append]
    have : (f.at (a + n)).length ≤ 1 := by unfold Vf.at; split <;> simp
    omega
theorem toldOf_len (f : Vf) (frm : Int) : (toldOf f frm).length ≤ 64 := by
  have := toldN_len f (max frm 1) (65 - max frm 1).toNat
  unfold toldOf; omega
theorem toldOf_one (f : Vf) : toldOf f 1 = allOf f := rfl
theorem toldN_congr {f g : Vf} {a : Int} {n : Nat} (h : ∀ s, a ≤ s → s < a + n → f s = g s) : toldN f a n = toldN g a n := by
  induction n with
  | zero => rfl
  | succ n ih =>
    rw [toldN, toldN, ih (fun s h1 h2 => h s h1 (by omega))]
    congr 1
    unfold Vf.at
    rw [h (a + n) (by omega) (by omega)]
theorem filter_all {l : List Vt} {p : Vt → Bool} (h : ∀ v ∈ l, p v = true) : l.filter p = l := List.filter_eq_self.2 h
theorem filter_none {l : List Vt} {p : Vt → Bool} (h : ∀ v ∈ l, p v = false) : l.filter p = [] := by
  rw [List.filter_eq_nil_iff]; intro v hv; rw [h v hv]; simp
/-- the votes of slots at a number or above, of all of them. -/
theorem told_filter (f : Vf) (frm : Int) : (allOf f).filter (fun v => decide (frm ≤ v.slot)) = toldOf f frm := by
  by_cases h1 : frm ≤ 1
  · have e : toldOf f frm = allOf f := by unfold toldOf allOf; rw [show max frm 1 = 1 by omega]; rfl
    rw [e]
    exact filter_all (fun v hv => by have := toldN_slot hv; simp; omega)
  · by_cases h2 : frm ≤ 64
    · obtain ⟨m, hm⟩ : ∃ m : Nat, frm = 1 + m := ⟨(frm - 1).toNat, by omega⟩
      have e : allOf f = toldN f 1 m ++ toldN f (1 + m) (64 - m) := by
        unfold allOf; rw [← toldN_add]; congr 1; omega
      rw [e, List.filter_append, filter_none (fun v hv => by have := toldN_slot hv; simp; omega), filter_all (fun v hv => by have := toldN_slot hv; simp; omega)]
      unfold toldOf
      rw [show max frm 1 = 1 + (m : Int) by omega, show (65 - (1 + (m : Int))).toNat = 64 - m by omega]; rfl
    · have e : toldOf f frm = [] := by unfold toldOf; rw [show (65 - max frm 1).toNat = 0 by omega]; rfl
      rw [e]
      exact filter_none (fun v hv => by have := toldN_slot hv; simp; omega)
/-- all votes, apart at a slot. -/
theorem all_split (f : Vf) {s : Int} (h1 : 1 ≤ s) (h2 : s ≤ 64) : allOf f = toldN f 1 (s - 1).toNat ++ (f.at s ++ toldN f (s + 1) (64 - s).toNat) := by
  obtain ⟨m, hm⟩ : ∃ m : Nat, s = 1 + m := ⟨(s - 1).toNat, by omega⟩
  subst hm
  unfold allOf
  rw [show (1 + (m : Int) - 1).toNat = m by omega, show (64 - (1 + (m : Int))).toNat = 63 - m by omega]
  have e : (64 : Nat) = m + (1 + (63 - m)) := by omega
  have e1 : toldN f (1 + m) 1 = f.at (1 + m) := by simp [toldN]
  calc toldN f 1 64 = toldN f 1 (m + (1 + (63 - m))) := by rw [← e]
    _ = toldN f 1 m ++ toldN f (1 + m) (1 + (63 - m)) := toldN_add f 1 m _
    _ = toldN f 1 m ++ (toldN f (1 + m) 1 ++ toldN f (1 + m + 1) (63 - m)) := by rw [toldN_add]; rfl
    _ = _ := by rw [e1]
theorem put_at (f : Vf) (s b : Int) (e : En) : (f.put s b e).at s = [⟨s, b, e⟩] := by simp [Vf.at, Vf.put]
theorem all_put (f : Vf) {s b : Int} {e : En} (h1 : 1 ≤ s) (h2 : s ≤ 64) : allOf (f.put s b e) = toldN f 1 (s - 1).toNat ++ ([⟨s, b, e⟩] ++ toldN f (s + 1) (64 - s).toNat) := by
  rw [all_split _ h1 h2, put_at, toldN_congr (f := f.put s b e) (g := f) (a := 1), toldN_congr (f := f.put s b e) (g := f) (a := s + 1)]
  · intro x hx _; unfold Vf.put; rw [if_neg (by omega)]
  · intro x _ hx; unfold Vf.put; rw [if_neg (by omega)]

/-! ### which vote is picked -/
def balAt (l : List Vt) (b : Nat) : Int := match l[b]? with
  | some u => u.ballot
  | none => 0
theorem balAt_some {l : List Vt} {b : Nat} {u : Vt} (h : l[b]? = some u) : balAt l b = u.ballot := by unfold balAt; rw [h]
def best (l : List Vt) (slot : Int) : Nat → Option Nat
  | 0 => none
  | k + 1 => match l[k]?, best l slot k with
    | some v, none => if v.slot = slot then some k else none
    | some v, some b => if v.slot = slot ∧ balAt l b < v.ballot then some k else some b
    | none, r => r
def pickOf (l : List Vt) (slot : Int) : Option Vt := match best l slot l.length with
  | some b => l[b]?
  | none => none
theorem best_lt {l : List Vt} {slot : Int} {k b : Nat} (h : best l slot k = some b) : b < k ∧ b < l.length := by
  induction k with
  | zero => simp [best] at h
  | succ k ih =>
    unfold best at h
    split at h
    · rename_i v hv _
      have := (List.getElem?_eq_some_iff.1 hv).1
      split at h
      · cases h; exact ⟨by omega, this⟩
      · cases h
    · rename_i v b' hv hb
      have := (List.getElem?_eq_some_iff.1 hv).1
      split at h
      · cases h; exact ⟨by omega, this⟩
      · cases h; have := ih hb; omega
    · have := ih h; omega
theorem best_none {l : List Vt} {slot : Int} {k : Nat} (h : best l slot k = none) : ∀ i v, i < k → l[i]? = some v → v.slot ≠ slot := by
  induction k with
  | zero => intro i v hi; omega
  | succ k ih =>
    intro i v hi hv
    unfold best at h
    split at h
    · rename_i u hu hb
      split at h
      · cases h
      · by_cases e : i = k
        · subst e; rw [hv] at hu; cases hu; assumption
        · exact ih hb i v (by omega) hv
    · split at h <;> cases h
    · rename_i hn
      by_cases e : i = k
      · subst e; simp_all
      · exact ih h i v (by omega) hv
theorem best_some {l : List Vt} {slot : Int} {k b : Nat} (h : best l slot k = some b) : ∃ u, l[b]? = some u ∧ u.slot = slot ∧ ∀ i v, i < k → l[i]? = some v → v.slot = slot → v.ballot ≤ u.ballot := by
  induction k generalizing b with
  | zero => simp [best] at h
  | succ k ih =>
    unfold best at h
    split at h
    · rename_i v hv hb
      split at h
      · rename_i hs
        cases h
        refine ⟨v, hv, hs, fun i x hi hx hxs => ?_⟩
        by_cases e : i = k
        · subst e; rw [hv] at hx; cases hx; omega
        · exact absurd hxs (best_none hb i x (by omega) hx)
      · cases h
    · rename_i v b' hv hb
      obtain ⟨u, hu, hus, hall⟩ := ih hb
      rw [balAt_some hu] at h
      split at h
      · rename_i hs
        cases h
        refine ⟨v, hv, hs.1, fun i x hi hx hxs => ?_⟩
        by_cases e : i = k
        · subst e; rw [hv] at hx; cases hx; omega
        · have := hall i x (by omega) hx hxs; have := hs.2; omega
      · rename_i hs
        cases h
        refine ⟨u, hu, hus, fun i x hi hx hxs => ?_⟩
        by_cases e : i = k
        · subst e; rw [hv] at hx; cases hx
          have := fun hh => hs ⟨hxs, hh⟩
          omega
        · exact hall i x (by omega) hx hxs
    · rename_i hn
      obtain ⟨u, hu, hus, hall⟩ := ih h
      refine ⟨u, hu, hus, fun i x hi hx hxs => ?_⟩
      by_cases e : i = k
      · subst e; simp_all
      · exact hall i x (by omega) hx hxs
theorem best_step {l : List Vt} {slot : Int} {k : Nat} {v : Vt} (hv : l[k]? = some v) : best l slot (k + 1) = match best l slot k with
    | none => if v.slot = slot then some k else none
    | some b => if v.slot = slot ∧ balAt l b < v.ballot then some k else some b := by
  conv => lhs; unfold best
  rw [hv]
  cases best l slot k <;> rfl
end Go.Proofs.YtjplhiflemmkfaaGreatDoor.Aa
namespace Go.Proofs.YtjplhiflemmkfaaGreatDoor.Aa
open Go.RowKit Go.Maps

theorem keyed : Keyed Tryz.prog 3 := int_keyed Tryz.underlying3
theorem zeroVt (w : World) : (zeroValue 276).run Tryz.prog w = .ok zvote w := by kernel_rfl
/-- an element that is held as it is. -/
def asIs (v : Value) : Option (DataW Value × List MemPlace) := some (.held v, [])
def wf64 (x : Int) : Prop := (Lit.int .i64 x).wf = true
theorem wf_range {x : Int} (h : -9223372036854775808 ≤ x ∧ x ≤ 9223372036854775807) : wf64 x := by
  unfold wf64; exact WalkArith.wf_i64 (by omega)
/-- the votes of a map. -/
def Vm (D : Nat → Prop) (w : World) (q : Nat) (f : Vf) (c : Nat) : Prop :=
  ∃ M : DataW Value, w.ownsMap Tryz.prog 3 asIs q c M ∧ (∀ x : Int, Maps.has M (.int .i64 x) = (f x).isSome) ∧
    ∀ (x b : Int) (e : En), f x = some (b, e) → ∃ mo mc, M.atKey (.int .i64 x) (.held zvote) = .held (.agg ((⟨x, b, e⟩ : Vt).cells (.slice mo e.ms.length mc)).toArray) ∧ Ir 0 w (.slice mo e.ms.length mc) e.ms ∧ (∀ k, (Value.slice mo e.ms.length mc).ownBlock = some k → D k) ∧ e.ms.length ≤ 1000000
/-- an acceptor at block p, its map at q: what it promised, its votes; all its memory is D's. -/
structure Ac (D : Nat → Prop) (w : World) (p q : Nat) (P : Int) (f : Vf) (c : Nat) : Prop where
  box : w.heap[p]? = some (.cells #[.int .i64 P, .map (some q)] 267 (0, 0))
  map : Vm D w q f c
  own : D p ∧ D q
  lt : ∀ k, D k → k < w.heap.size
def foot (p q : Nat) (k : Nat) : Prop := k = p ∨ k = q
theorem Vm.kp {D E : Nat → Prop} {w w' : World} {q : Nat} {f : Vf} {c : Nat} (h : Vm D w q f c) (hk : Kp E w w') (hq : ¬ E q) (hd : ∀ k, D k → ¬ E k ∨ ∀ cur fr, w.heap[k]? ≠ some (.cells cur 3 fr)) : Vm D w' q f c := by
  obtain ⟨M, ⟨es, cl, h1, h2⟩, h3, h4⟩ := h
  refine ⟨M, ⟨es, cl, hk.block h1 hq, h2⟩, h3, fun x b e hx => ?_⟩
  obtain ⟨mo, mc, k1, k2, k3, k4⟩ := h4 x b e hx
  refine ⟨mo, mc, k1, own_kept k2 fun k ho => hk.2 k (k2.lt k ho).2 (fun hE => ?_), k3, k4⟩
  obtain ⟨_, cur, fr, hc⟩ := own_tag k2 k ho
  rcases hd k (k3 k ho) with hn | hn
  · exact hn hE
  · exact hn cur fr hc
theorem Vm.mono {D E : Nat → Prop} {w : World} {q : Nat} {f : Vf} {c c' : Nat} (h : Vm D w q f c) (hd : ∀ k, D k → E k) (hc : c ≤ c') : Vm E w q f c' := by
  obtain ⟨M, h1, h3, h4⟩ := h
  refine ⟨M, h1.mono hc, h3, fun x b e hx => ?_⟩
  obtain ⟨mo, mc, k1, k2, k3, k4⟩ := h4 x b e hx
  exact ⟨mo, mc, k1, k2, fun k ho => hd k (k3 k ho), k4⟩
theorem Vm.isMap {D : Nat → Prop} {w : World} {q : Nat} {f : Vf} {c : Nat} (h : Vm D w q f c) : ∃ es cl, w.heap[q]? = some (.map es cl) := by
  obtain ⟨M, ⟨es, cl, h1, _⟩, _⟩ := h; exact ⟨es, cl, h1⟩
theorem Ac.kp {D E : Nat → Prop} {w w' : World} {p q : Nat} {P : Int} {f : Vf} {c : Nat} (h : Ac D w p q P f c) (hk : Kp E w w') (hd : ∀ k, D k → ¬ E k) : Ac D w' p q P f c :=
  ⟨hk.block h.box (hd p h.own.1), h.map.kp hk (hd q h.own.2) (fun k x => Or.inl (hd k x)), h.own, fun k x => Nat.lt_of_lt_of_le (h.lt k x) hk.size⟩
theorem Ac.below {D : Nat → Prop} {w w' : World} {p q : Nat} {P : Int} {f : Vf} {c : Nat} (h : Ac D w p q P f c) (hb : Below w.heap.size w w') : Ac D w' p q P f c := h.kp (E := fun _ => False) (Kp.of_below hb) (fun _ _ x => x)
theorem Ac.mono {D : Nat → Prop} {w : World} {p q : Nat} {P : Int} {f : Vf} {c c' : Nat} (h : Ac D w p q P f c) (hc : c ≤ c') : Ac D w p q P f c' := ⟨h.box, h.map.mono (fun _ x => x) hc, h.own, h.lt⟩
theorem Ac.ne {D : Nat → Prop} {w : World} {p q : Nat} {P : Int} {f : Vf} {c : Nat} (h : Ac D w p q P f c) : q ≠ p := fun e => by
  subst e
  obtain ⟨es, cl, h1⟩ := h.map.isMap
  have := h.box
  rw [h1] at this; cases this
/-- an acceptor's two blocks are none of votes or numbers. -/
theorem Ac.far {D : Nat → Prop} {w : World} {p q : Nat} {P : Int} {f : Vf} {c : Nat} (h : Ac D w p q P f c) {low : Nat} {ts : List TypeId} (hp : low ≤ p) (hq : low ≤ q) (ht : 267 ∉ ts) : Far low ts w (foot p q) := fun k hk _ => by
  rcases hk with rfl | rfl
  · exact ⟨hp, fun cur e fr hc => by rw [h.box] at hc; cases hc; exact ht⟩
  · obtain ⟨es, cl, h1⟩ := h.map.isMap
    exact ⟨hq, fun cur e fr hc => by rw [h1] at hc; cases hc⟩
/-- what is promised is set. -/
theorem Ac.promise {D : Nat → Prop} {w : World} {p q : Nat} {P : Int} {f : Vf} {c : Nat} (h : Ac D w p q P f c) (b : Int) : Ac D (w.setCell ⟨p, 0, none⟩ (.int .i64 b)) p q b f c := by
  have hk : Kp (fun k => k = p) w (w.setCell ⟨p, 0, none⟩ (.int .i64 b)) := Kp.setCell (D := fun k => k = p) (Kp.refl _ w) (p := ⟨p, 0, none⟩) rfl _
  refine ⟨setCell_block h.box, h.map.kp hk h.ne (fun k _ => ?_), h.own, fun k x => Nat.lt_of_lt_of_le (h.lt k x) hk.size⟩
  by_cases e : k = p
  · right
    subst e
    intro cur fr hc
    rw [h.box] at hc; cases hc
  · exact Or.inl e

theorem new_any (w : World) : Calls Tryz.prog 235 #[] w fun e w' => ∃ p q, e = .returned (.pointer (some ⟨p, 0, none⟩)) ∧ Ac (fun k => w.heap.size ≤ k ∧ k < w'.heap.size) w' p q 0 Vf.none 0 ∧ Below w.heap.size w w' := by
  have hmm := @run_makeMap Tryz.prog
  go_enter Tryz.func235, Tryz.ntmps235
  go_wp2
  go_ret
  have s1 : (w.alloc (.map #[] 0)).heap.size = w.heap.size + 1 := World.size_alloc _ _
  have b1 : Below w.heap.size w (w.alloc (.map #[] 0)) := (Below.refl _ w).alloc (Nat.le_refl _) _
  have s2 : ((w.alloc (.map #[] 0)).alloc (.cells #[.int .i64 0, .map (some w.heap.size)] 267)).heap.size = w.heap.size + 2 := by rw [World.size_alloc, s1]
  refine ⟨_, w.heap.size, rfl, ⟨?_, ⟨.map [], (World.ownsMap_made w Tryz.prog 3 asIs).alloc _, fun x => rfl, fun x b e hx => by cases hx⟩, ⟨⟨by omega, by omega⟩, ⟨by omega, by omega⟩⟩, fun k hk => hk.2⟩, b1.alloc (by omega) _⟩
  have := box_at (w.alloc (.map #[] 0)) (.cells #[.int .i64 0, .map (some w.heap.size)] 267)
  rw [s1] at this; exact this
theorem promised_any {D : Nat → Prop} {p q : Nat} {P : Int} {f : Vf} {c : Nat} (w : World) (h : Ac D w p q P f c) :
    Calls Tryz.prog 241 #[.pointer (some ⟨p, 0, none⟩)] w fun e w' => e = .returned (.int .i64 P) ∧ w' = w := by
  have c3 : w.cell? ⟨p, 0, none⟩ = some (.int .i64 P) := (cell_of_block h.box).trans rfl
  clear h
  go_enter Tryz.func241, Tryz.ntmps241
  go_wp2
  go_ret
  exact ⟨rfl, rfl⟩
/-- a slot is looked up. -/
theorem Vm.look_some {D : Nat → Prop} {w : World} {q : Nat} {f : Vf} {c : Nat} (h : Vm D w q f c) {x b : Int} {e : En} (hx : wf64 x) (hf : f x = some (b, e)) :
    ∃ mo mc, (Instr.lookup 265 (.map (some q)) (.int .i64 x) true).run Tryz.prog w = .ok (.tuple #[.agg #[.int .i64 x, .int .i64 b, .int .i64 e.kind, .int .i64 e.client, .int .i64 e.seq, .string e.text, .slice mo e.ms.length mc, .int .i64 e.dest], .bool true]) w ∧ Ir 0 w (.slice mo e.ms.length mc) e.ms ∧ e.ms.length ≤ 1000000 := by
  obtain ⟨M, h1, h3, h4⟩ := h
  obtain ⟨mo, mc, k1, k2, k3, k4⟩ := h4 x b e hf
  obtain ⟨v, ps, r1, r2⟩ := h1.look_ok keyed Tryz.underlying265 (zeroVt w) rfl (keyOf_int_mk Tryz.underlying3 hx)
  rw [k1] at r2
  simp only [asIs, Option.some.injEq, Prod.mk.injEq, DataW.held.injEq] at r2
  rw [h3 x, hf, r2.1] at r1
  exact ⟨mo, mc, r1, k2, k4⟩
theorem Vm.look_none {D : Nat → Prop} {w : World} {q : Nat} {f : Vf} {c : Nat} (h : Vm D w q f c) {x : Int} (hx : wf64 x) (hf : f x = none) :
    (Instr.lookup 265 (.map (some q)) (.int .i64 x) true).run Tryz.prog w = .ok (.tuple #[zvote, .bool false]) w := by
  obtain ⟨M, h1, h3, h4⟩ := h
  obtain ⟨v, ps, r1, r2⟩ := h1.look_ok keyed Tryz.underlying265 (zeroVt w) rfl (keyOf_int_mk Tryz.underlying3 hx)
  have hh : Maps.has M (.int .i64 x) = false := by rw [h3 x, hf]; rfl
  rw [atKey_of_not_has hh] at r2
  simp only [asIs, Option.some.injEq, Prod.mk.injEq, DataW.held.injEq] at r2
  rw [hh, r2.1] at r1
  exact r1
end Go.Proofs.YtjplhiflemmkfaaGreatDoor.Aa
namespace Go.Proofs.YtjplhiflemmkfaaGreatDoor.Aa
open Go.RowKit Go.Maps

theorem told_step_none {f : Vf} {a : Int} {n : Nat} (h : f (a + n) = none) : toldN f a (n + 1) = toldN f a n := by
  simp only [toldN, Vf.at, h, List.append_nil]
theorem told_step_some {f : Vf} {a : Int} {n : Nat} {b : Int} {e : En} (h : f (a + n) = some (b, e)) : toldN f a (n + 1) = toldN f a n ++ [⟨a + n, b, e⟩] := by
  simp only [toldN, Vf.at, h]
/-- a vote by itself, in a block of its own. -/
theorem VsR.one {low base : Nat} {w : World} {nb : Nat} {v : Vt} {mo : Option Addr} {mc : Nat} {T : TypeId} (hx : w.heap[nb]? = some (.cells (v.cells (.slice mo v.e.ms.length mc)).toArray T (0, 0))) (hm : Mm low base w mo mc v.e.ms) (hl : v.e.ms.length ≤ 1000000) : VsR low base w (some ⟨nb, 0, none⟩) [v] := fun i u hi => by
  have hi0 : i = 0 := by have := (List.getElem?_eq_some_iff.1 hi).1; simp at this; omega
  subst hi0
  simp at hi; subst hi
  refine ⟨nb, 0, mo, mc, rfl, fun j x hj => ?_, hm, hl⟩
  rw [cell_of_block hx]
  simpa using hj

set_option maxRecDepth 20000 in
set_option maxHeartbeats 4000000 in
theorem told_any {D : Nat → Prop} {p q : Nat} {P : Int} {f : Vf} {c : Nat} (w : World) (frm : Int) (h : Ac D w p q P f c) :
    Calls Tryz.prog 240 #[.pointer (some ⟨p, 0, none⟩), .int .i64 frm] w fun e w' => ∃ rv, e = .returned rv ∧ VRow 276 0 w.heap.size w' rv (toldOf f frm) ∧ Below w.heap.size w w' := by
  obtain ⟨a, ha⟩ : ∃ a : Int, max frm 1 = a := ⟨_, rfl⟩
  have ha1 : 1 ≤ a := by omega
  obtain ⟨m, hm⟩ : ∃ m : Nat, (65 - a).toNat = m := ⟨_, rfl⟩
  have ht : toldOf f frm = toldN f a m := by unfold toldOf; rw [ha, hm]
  rw [ht]
  have H := hide h
  have HM := hide hm
  have HA := hide ha
  clear h hm ht ha
  by_cases h1 : frm < 1
  all_goals
    go_enter Tryz.func240, Tryz.ntmps240
    go_wp2_with fail
    go_loopw [5, 6] (fun rv sv wr => ∃ n : Nat, n ≤ m ∧ sv = .int .i64 (a + n) ∧ VRow 276 0 w.heap.size wr rv (toldN f a n) ∧ Below w.heap.size w wr) (fun _ sv _ => 65 - (intOf sv).toNat)
    case atStart =>
      refine ⟨0, Nat.zero_le _, ?_, VRow.nil _ _ _ _, Below.refl _ _⟩
      congr 1
      have := unhide HA
      omega
    case round =>
      obtain ⟨n, hn, rfl, hrow, hbel⟩ := hrel
      have R := hide hrow
      have B := hide hbel
      have HN := hide hn
      clear hrow hbel
      obtain ⟨s, hs⟩ : ∃ s : Int, a + (n : Int) = s := ⟨_, rfl⟩
      have HSN := hide hs
      rw [hs]
      clear hs
      by_cases hlt : s ≤ 64
      · have A := (unhide H).below (unhide B)
        have cM : wr.cell? ⟨p, 1, none⟩ = some (.map (some q)) := (cell_of_block A.box).trans rfl
        have hs1 : 1 ≤ s := by have := unhide HSN; omega
        have hw : wf64 s := wf_range (by omega)
        cases hf : f s with
        | none =>
          have lk := A.map.look_none hw hf
          have HF := hide hf
          clear A hw hf
          go_wp2
          go_roundw
          case rel =>
            have bA : Below wr.heap.size wr (wr.alloc (.cells #[.int .i64 0, .int .i64 0, .int .i64 0, .int .i64 0, .int .i64 0, .string ⟨#[]⟩, .slice none 0 0, .int .i64 0] 276)) := (Below.refl _ wr).alloc (Nat.le_refl _) _
            refine ⟨n + 1, by have := unhide HM; have := unhide HSN; omega, by congr 1; have := unhide HSN; omega, ?_, below_far (unhide B) bA⟩
            rw [told_step_none (by rw [unhide HSN]; exact unhide HF)]
            exact (unhide R).below bA
          case measure => simp [intOf]; omega
        | some be =>
          obtain ⟨b, e⟩ := be
          obtain ⟨mo, mc, lk, hmem, hml⟩ := A.map.look_some hw hf
          have HF := hide hf
          have MEM := hide hmem
          obtain ⟨W1, hW1⟩ : ∃ W, wr.alloc (.cells #[.int .i64 s, .int .i64 b, .int .i64 e.kind, .int .i64 e.client, .int .i64 e.seq, .string e.text, .slice mo e.ms.length mc, .int .i64 e.dest] 276) = W := ⟨_, rfl⟩
          have b1 : Below wr.heap.size wr W1 := by rw [← hW1]; exact (Below.refl _ wr).alloc (Nat.le_refl _) _
          have x1 : W1.heap[wr.heap.size]? = some (.cells #[.int .i64 s, .int .i64 b, .int .i64 e.kind, .int .i64 e.client, .int .i64 e.seq, .string e.text, .slice mo e.ms.length mc, .int .i64 e.dest] 276 (0, 0)) := by rw [← hW1]; exact box_at _ _
          have C := twin_any ⟨s, b, e⟩ mo mc W1 ((Ir.inF hmem).ints.below b1) hml
          simp only [Vt.cells, En.cells] at C
          have CC := hide C
          have k0 : W1.cell? ⟨wr.heap.size, 0, none⟩ = some (.int .i64 s) := (cell_of_block x1).trans rfl
          have k1 : W1.cell? ⟨wr.heap.size, 1, none⟩ = some (.int .i64 b) := (cell_of_block x1).trans rfl
          have k2 : W1.cell? ⟨wr.heap.size, 2, none⟩ = some (.int .i64 e.kind) := (cell_of_block x1).trans rfl
          have k3 : W1.cell? ⟨wr.heap.size, 3, none⟩ = some (.int .i64 e.client) := (cell_of_block x1).trans rfl
          have k4 : W1.cell? ⟨wr.heap.size, 4, none⟩ = some (.int .i64 e.seq) := (cell_of_block x1).trans rfl
          have k5 : W1.cell? ⟨wr.heap.size, 5, none⟩ = some (.string e.text) := (cell_of_block x1).trans rfl
          have k6 : W1.cell? ⟨wr.heap.size, 6, none⟩ = some (.slice mo e.ms.length mc) := (cell_of_block x1).trans rfl
          have k7 : W1.cell? ⟨wr.heap.size, 7, none⟩ = some (.int .i64 e.dest) := (cell_of_block x1).trans rfl
          have HW1 := hide hW1
          have B1 := hide (below_far (unhide B) b1)
          have R1 := hide ((unhide R).below b1)
          clear A hw hf hmem C x1 hW1 b1
          go_upto_region 7 with fail
          rw [unhide HW1]
          go_wp2_with fail
          refine (unhide CC).mono ?_
          rintro x w2 ⟨mo2, mc2, rfl, o2, b2⟩
          have O2 := hide o2
          have B2 := hide (below_far (unhide B1) b2)
          have R2 := hide ((unhide R1).below b2)
          clear o2 b2 k0 k1 k2 k3 k4 k5 k6 k7
          obtain ⟨W3, hW3⟩ : ∃ W, w2.alloc (.cells #[.int .i64 s, .int .i64 b, .int .i64 e.kind, .int .i64 e.client, .int .i64 e.seq, .string e.text, .slice mo2 e.ms.length mc2, .int .i64 e.dest] 276) = W := ⟨_, rfl⟩
          have b3 : Below w2.heap.size w2 W3 := by rw [← hW3]; exact (Below.refl _ w2).alloc (Nat.le_refl _) _
          have x3 : W3.heap[w2.heap.size]? = some (.cells #[.int .i64 s, .int .i64 b, .int .i64 e.kind, .int .i64 e.client, .int .i64 e.seq, .string e.text, .slice mo2 e.ms.length mc2, .int .i64 e.dest] 276 (0, 0)) := by rw [← hW3]; exact box_at _ _
          have o3 : Ir w.heap.size W3 (.slice mo2 e.ms.length mc2) e.ms := own_mono ((unhide O2).below b3) (unhide B1).size
          have SRC : Hid (VsR 0 w.heap.size W3 (some ⟨w2.heap.size, 0, none⟩) [⟨s, b, e⟩]) := VsR.one (v := ⟨s, b, e⟩) x3 (Or.inl o3) hml
          have R3 := hide ((unhide R2).below b3)
          have B3 := hide (below_far (unhide B2) b3)
          have HLN : Hid ((toldN f a n).length + 1 ≤ 1000000) := by show _ ≤ _; have := toldN_len f a n; have := unhide HM; have := unhide HN; omega
          have S3 := hide ((unhide B3).size)
          clear b3 x3 o3
          subst hW3
          go_wp2_with (refine wpList_appV Tryz.underlying145 (by decide) Tryz.infoAV rfl (.tmp 25) (.tmp 28) rfl 0 w.heap.size (Nat.zero_le _) _ (toldN f a n) rfl (unhide R3) (some ⟨w2.heap.size, 0, none⟩) 1 1 [⟨s, b, e⟩] rfl rfl (unhide SRC) (unhide HLN) (unhide S3) ?_)
          intro v4 w4 r4 g4
          have B4 := hide ((unhide B3).grown g4 (unhide B3).size (fun k hk => ((unhide R3).tag k hk).1))
          have R4 := hide r4
          clear r4 g4
          go_wp2
          go_roundw
          case rel =>
            refine ⟨n + 1, by have := unhide HM; have := unhide HSN; omega, by congr 1; have := unhide HSN; omega, ?_, unhide B4⟩
            have e0 : (⟨s, b, e⟩ : Vt) = ⟨a + n, b, e⟩ := by rw [unhide HSN]
            rw [told_step_some (by rw [unhide HSN]; exact unhide HF), ← e0]
            exact unhide R4
          case measure => simp [intOf]; omega
      · go_wp2
        go_ret
        have e1 : n = m := by have := unhide HM; have := unhide HSN; omega
        exact ⟨_, rfl, e1 ▸ unhide R, unhide B⟩
end Go.Proofs.YtjplhiflemmkfaaGreatDoor.Aa
namespace Go.Proofs.YtjplhiflemmkfaaGreatDoor.Aa
open Go.RowKit Go.Maps

theorem votes_any {D : Nat → Prop} {p q : Nat} {P : Int} {f : Vf} {c : Nat} (w : World) (h : Ac D w p q P f c) :
    Calls Tryz.prog 302 #[.pointer (some ⟨p, 0, none⟩)] w fun e w' => ∃ rv, e = .returned rv ∧ VRow 276 0 w.heap.size w' rv (allOf f) ∧ Below w.heap.size w w' := by
  have C := hide (told_any w 1 h)
  clear h
  go_enter Tryz.func302, Tryz.ntmps302
  go_wp2_with (go_at_call 240; refine (unhide C).mono ?_; rintro e w' ⟨rv, rfl, h1, h2⟩; have H1 := hide h1; have H2 := hide h2; clear h1 h2)
  go_ret
  exact ⟨_, rfl, unhide H1, unhide H2⟩
theorem numR_no {P b n : Int} {bad : Bool} (hN : noOf P b bad = n) (hn : noOf P b bad ≠ 0) : numR n = n := by
  subst hN
  unfold noOf at hn ⊢
  split
  · rfl
  · split
    · rfl
    · rename_i h1 h2
      rw [if_neg h1, if_neg h2] at hn; exact absurd rfl hn
/-- a refused ballot. -/
theorem prepare_no {D : Nat → Prop} {p q : Nat} {P : Int} {f : Vf} {c : Nat} (w : World) (b frm : Int) (h : Ac D w p q P f c) (hn : noOf P b false ≠ 0) :
    Calls Tryz.prog 182 #[.pointer (some ⟨p, 0, none⟩), .int .i64 b, .int .i64 frm] w fun e w' => e = .returned (.tuple #[.slice none 0 0, .int .i64 (noOf P b false)]) ∧ Below w.heap.size w w' := by
  have C := hide (refuse_of P b false p (.slice none 0 0) w ((cell_of_block h.box).trans rfl) (contains_nil w))
  obtain ⟨n, hN⟩ : ∃ n, noOf P b false = n := ⟨_, rfl⟩
  have HN := hide (numR_no hN hn)
  rw [hN] at C hn ⊢
  have HZ := hide hn
  clear h hN hn
  go_enter Tryz.func182, Tryz.ntmps182
  go_wp2_with fail
  refine (unhide C).mono ?_
  rintro e w1 ⟨v, rfl, hr, b1⟩
  rcases hr with ⟨h0, -⟩ | ⟨-, rb, rfl, hR⟩
  · exact absurd h0 (unhide HZ)
  · have NC := hide (number_ref n rb w1 hR)
    have B1 := hide b1
    rw [unhide HN] at NC
    unfold refV at NC ⊢
    clear hR b1 C HZ HN
    go_wp2_with (go_at_call 239; refine (unhide NC).mono ?_; rintro e w' ⟨rfl, rfl⟩)
    go_ret2
    exact ⟨rfl, unhide B1⟩
set_option maxRecDepth 20000 in
theorem prepare_ok {D : Nat → Prop} {p q : Nat} {P : Int} {f : Vf} {c : Nat} (w : World) (b frm : Int) (h : Ac D w p q P f c) (hn : noOf P b false = 0) :
    Calls Tryz.prog 182 #[.pointer (some ⟨p, 0, none⟩), .int .i64 b, .int .i64 frm] w fun e w' => ∃ rv, e = .returned (.tuple #[rv, .int .i64 0]) ∧ VRow 276 0 w.heap.size w' rv (toldOf f frm) ∧ Ac D w' p q b f c ∧ Kp (fun k => k = p) w w' := by
  have C := hide (refuse_of P b false p (.slice none 0 0) w ((cell_of_block h.box).trans rfl) (contains_nil w))
  rw [hn] at C
  have H := hide h
  clear h hn
  go_enter Tryz.func182, Tryz.ntmps182
  go_wp2_with fail
  refine (unhide C).mono ?_
  rintro e w1 ⟨v, rfl, hr, b1⟩
  rcases hr with ⟨-, rfl⟩ | ⟨h0, -⟩
  · have A1 := (unhide H).below b1
    have c0 : w1.cell? ⟨p, 0, none⟩ = some (.int .i64 P) := (cell_of_block A1.box).trans rfl
    have f0 : w1.frozen? ⟨p, 0, none⟩ = false := free_of_block A1.box
    obtain ⟨W, hW⟩ : ∃ W, w1.setCell ⟨p, 0, none⟩ (.int .i64 b) = W := ⟨_, rfl⟩
    have A2 : Ac D W p q b f c := by rw [← hW]; exact A1.promise b
    have k2 : Kp (fun k => k = p) w W := by
      rw [← hW]
      exact Kp.setCell (D := fun k => k = p) (Kp.of_below b1) (p := ⟨p, 0, none⟩) rfl _
    have TC := hide (told_any W frm A2)
    have AA := hide A2
    have KK := hide k2
    have HW := hide hW
    clear A1 A2 k2 hW b1 C
    go_upto_region 5 with fail
    rw [unhide HW]
    go_wp2_with (go_at_call 240; refine (unhide TC).mono ?_; rintro e w3 ⟨rv, rfl, h1, h2⟩; have H1 := hide h1; have H2 := hide h2; clear h1 h2)
    go_ret2
    exact ⟨_, rfl, (unhide H1).mono (Nat.le_refl _) (unhide KK).size, (unhide AA).below (unhide H2), (unhide KK).far (unhide H2)⟩
  · exact absurd rfl h0
end Go.Proofs.YtjplhiflemmkfaaGreatDoor.Aa
