/- Slices of numbers: what can be read, rows of the call's own, append. Lists of members as plain lists: what is wrong with one, rising ones, majorities. No program is spoken of here. conf.climbs, conf.wrong, conf.Check: contracts. synodallaw8's List, Plain: contracts. slices.Equal and synodalref2.SameInts at slices of numbers: contracts. conf.Check, Members, In, Same: contracts. -/
import Derived.Test.YtjplhiflemmkfaaGreatDoorCrc
import Derived.Test.YtjplhiflemmkfaaGreatDoorSame
import Derived.Test.YtjplhiflemmkfaaGreatDoorFrameAt
import Derived.Test.YtjplhiflemmkfaaGreatDoorReaderI
import Derived.Maps.AppendAt
import Derived.Deep.AppendSrc
import Derived.Deep.Upon
import Derived.Deep.QuietTactic
import Derived.BigQuiet
import Derived.Deep.DeepCutAuto
import Derived.Deep.CutBlock
import Derived.Deep.RegionWith
import Derived.Lib.SlicesCompact
namespace Go.Proofs.YtjplhiflemmkfaaGreatDoor
open Go.RowKit Go.Maps

theorem Tryz.infoI : (Tryz.prog.info? 3).map (fun i => (i.zero, i.size, i.bytes)) = some (some (.int .i64 0), 1, 8) := by kernel_rfl
theorem IntsR.nil (w : World) (ao : Option Addr) : IntsR w ao [] := fun i hi => by simp at hi
theorem IntsR.none_nil {w : World} {ys : List Int} (h : IntsR w none ys) : ys = [] := by
  cases ys with
  | nil => rfl
  | cons y ys => obtain ⟨a, e, _⟩ := h 0 (by simp); cases e
theorem drop_getD {xs : List Int} {k : Nat} (h : k < xs.length) : xs.drop k = xs.getD k 0 :: xs.drop (k + 1) := by
  rw [List.drop_eq_getElem_cons h, List.getD_eq_getElem?_getD, List.getElem?_eq_getElem h]; rfl
theorem mem_getD {xs : List Int} {k : Nat} (h : k < xs.length) : xs.getD k 0 ∈ xs := by
  rw [List.getD_eq_getElem?_getD, List.getElem?_eq_getElem h]; exact List.getElem_mem h

/-! ### such as the library's contracts speak of: no element of an array within a struct -/
def Fr (w : World) (ao : Option Addr) (ys : List Int) : Prop := IntsR w ao ys ∧ ∀ a, ao = some a → ∃ b off, a = ⟨b, off, none⟩
theorem Fr.below {w w' : World} {ao : Option Addr} {ys : List Int} (h : Fr w ao ys) (hb : Below w.heap.size w w') : Fr w' ao ys := ⟨h.1.below hb, h.2⟩
theorem Fr.take {w : World} {ao : Option Addr} {ys : List Int} (h : Fr w ao ys) (n : Nat) : Fr w ao (ys.take n) := by
  refine ⟨fun i hi => ?_, h.2⟩
  rw [List.length_take] at hi
  obtain ⟨a, e, hc⟩ := h.1 i (by omega)
  refine ⟨a, e, ?_⟩
  rw [hc, List.getD_eq_getElem?_getD, List.getD_eq_getElem?_getD, List.getElem?_take_of_lt (by omega)]
theorem Fr.at {w : World} {ao : Option Addr} {ys : List Int} (h : Fr w ao ys) : ys = [] ∨ ∃ b off, ao = some ⟨b, off, none⟩ ∧ ∀ j, j < ys.length → w.cell? ⟨b, off + j, none⟩ = some (.int .i64 (ys.getD j 0)) := by
  by_cases hy : ys = []
  · exact Or.inl hy
  · right
    have h0 : 0 < ys.length := List.length_pos_iff.2 hy
    obtain ⟨a, rfl, _⟩ := h.1 0 h0
    obtain ⟨b, off, rfl⟩ := h.2 a rfl
    refine ⟨b, off, rfl, fun j hj => ?_⟩
    obtain ⟨a', e, hc⟩ := h.1 j hj
    cases e
    rw [Addr.add_lit] at hc; exact hc

/-! ### rows of the call's own -/
theorem i64s_append (xs ys : List Int) : i64s (xs ++ ys) = i64s xs ++ i64s ys := by simp [i64s]
theorem i64s_one (ys : List Int) : ∀ u ∈ i64s ys, u.oneCell' = true := fun u hu => by
  simp only [i64s, List.mem_map] at hu; obtain ⟨y, _, rfl⟩ := hu; rfl
/-- v is a row of the call's own, of the numbers ys. -/
def Ir (base : Nat) (w : World) (v : Value) (ys : List Int) : Prop := w.ownsRow base 3 1 v ys.length (i64s ys)
theorem Ir.below {base : Nat} {w w' : World} {v : Value} {ys : List Int} (h : Ir base w v ys) (hb : Below w.heap.size w w') : Ir base w' v ys := own_below h hb
theorem Ir.nil (base : Nat) (w : World) : Ir base w (.slice none 0 0) [] := ⟨by simp [i64s], Or.inl ⟨rfl, rfl⟩⟩
theorem Ir.slice {base : Nat} {w : World} {v : Value} {ys : List Int} (h : Ir base w v ys) : ∃ ao cap, v = .slice ao ys.length cap ∧ Fr w ao ys ∧ ys.length ≤ cap ∧ cap ≤ maxLen := by
  rcases h.2 with ⟨rfl, h0⟩ | ⟨g, cap, cur, rfl, hb, hh, hc, hm, hs, ht⟩
  · have : ys = [] := List.eq_nil_of_length_eq_zero h0
    subst this
    exact ⟨none, 0, rfl, ⟨IntsR.nil _ _, fun a ha => by cases ha⟩, Nat.le_refl _, by decide⟩
  · refine ⟨_, cap, rfl, ⟨fun i hi => ⟨_, rfl, ?_⟩, fun a ha => ⟨g, 0, by cases ha; rfl⟩⟩, hc, hm⟩
    refine World.ownsRow.cells h (g := g) rfl i _ ?_
    rw [i64s, List.getElem?_map, List.getElem?_eq_getElem hi, List.getD_eq_getElem?_getD, List.getElem?_eq_getElem hi]; rfl
/-- append: the source may be nil; an operation's law. -/
theorem wpList_app {w : World} {ops : Array Oper} {rest : List Oper} {o : Oper} {a : Act} {Q : Exit → Act → World → Prop} (hgd : o.guard = none) (s x : Operand)
    (ho : o.op = .call { callee := .builtin .append, args := #[s, x], argTypes := #[24, 24] }) (base : Nat) (v : Value) (xs : List Int) (hs : a.eval s = v) (hown : Ir base w v xs)
    (ao : Option Addr) (m c : Nat) (ys : List Int) (hx : a.eval x = .slice ao m c) (hm : ys.length = m) (hy : IntsR w ao ys) (hl : xs.length + m ≤ 1000000000) (hb : base ≤ w.heap.size)
    (h : ∀ v' w', Ir base w' v' (xs ++ ys) → w.grownBy w' v.ownBlock → wpList Tryz.prog ops Q rest (a.put o.dst v') w') : wpList Tryz.prog ops Q (o :: rest) a w := by
  obtain ⟨i0, hi0, hz0, hz1, hz2⟩ := info_parts Tryz.infoI
  refine wpList_plain hgd fun K hK => ?_
  have key : ∃ v' w', (Builtin.append_ #[24, 24] o.type #[v, .slice ao m c]).run Tryz.prog w = .ok v' w' ∧ Ir base w' v' (xs ++ ys) ∧ w.grownBy w' v.ownBlock := by
    cases ao with
    | none =>
      obtain rfl := hy.none_nil
      simp only [List.length_nil] at hm
      subst hm
      obtain ⟨av, cv, rfl, _, hc, _⟩ := hown.slice
      have hr := run_append_nothing (P := Tryz.prog) w 24 24 o.type 3 i0 Tryz.underlying24 hi0 av xs.length cv hc (.slice none 0 c) (Src.ofNil w Tryz.underlying24 c)
      exact ⟨_, _, hr, by simpa using hown, ⟨rfl, rfl, rfl, Nat.le_refl _, fun _ _ _ => rfl⟩⟩
    | some ad =>
      obtain ⟨v', w', hr, o', g', _⟩ := run_append_own_at (P := Tryz.prog) w base 24 o.type 3 i0 _ 1 8 Tryz.underlying24 hi0 hz0 hz1 hz2 rfl (by decide) v xs.length (i64s xs) hown ad m c (i64s ys) (by rw [i64s, List.length_map, hm]; omega)
        (fun j u hj => by
          rw [i64s, List.getElem?_map] at hj
          cases hq : ys[j]? with
          | none => rw [hq] at hj; simp at hj
          | some y =>
            rw [hq] at hj; simp at hj; subst hj
            obtain ⟨a, e, hcell⟩ := hy j (List.getElem?_eq_some_iff.1 hq).1
            cases e
            rw [hcell, List.getD_eq_getElem?_getD, hq]; rfl)
        (i64s_one ys) (by unfold maxLen; omega) (by omega) hb
      refine ⟨v', w', hr, ?_, g'⟩
      unfold Ir
      rw [List.length_append, hm, i64s_append]; exact o'
  obtain ⟨v', w', hr, h1, h2⟩ := key
  unfold Oper.wp execOp
  simp only [ho, resolve, invoke, builtin, Sem.run_bind, Sem.run_pure, Result.andThen_ok, List.map_toArray, List.map_cons, List.map_nil, hs, hx, hr]
  exact hK _ _ (h v' w' h1 h2)
theorem Ir.grown {base : Nat} {a w w' : World} {v : Value} {xs : List Int} (h : Ir base w v xs) (hg : w.grownBy w' v.ownBlock) (hb : Below base a w) (hbb : base ≤ w.heap.size) : Below base a w' :=
  hb.grown hg hbb (fun k hk => (h.lt k hk).1)
end Go.Proofs.YtjplhiflemmkfaaGreatDoor
namespace Go.Proofs.YtjplhiflemmkfaaGreatDoor

/-- each above the one ahead, and below 9. -/
def climb : Int → List Int → Bool
  | _, [] => true
  | a, x :: xs => if x ≤ a ∨ 9 ≤ x then false else climb x xs
def wrongOf (newer : Bool) (xs : List Int) : Nat := if newer = true ∧ xs = [] then 2 else if 7 < xs.length then 4 else if climb (-1) xs then 0 else 1
def checkOf (old new : List Int) : Nat := if wrongOf false old = 0 then wrongOf true new else wrongOf false old
/-- rising, each once. -/
def ris (xs : List Int) : List Int := Go.Lib.compact (xs.mergeSort fun x y => decide (x ≤ y))
def cnt (l yes : List Int) : Nat := l.countP (yes.contains ·)
def k_half (l yes : List Int) : Bool := decide (l.length < 2 * cnt l yes)
def quorumOf (old new yes : List Int) : Bool := k_half new yes && (old.isEmpty || k_half old yes)
/-- such a list as may be. -/
def Up (xs : List Int) : Prop := xs.Pairwise (· < ·) ∧ ∀ x ∈ xs, 0 ≤ x ∧ x < 9

theorem climb_iff : ∀ (xs : List Int) (a : Int), climb a xs = true ↔ xs.Pairwise (· < ·) ∧ ∀ x ∈ xs, a < x ∧ x < 9
  | [], a => by simp [climb]
  | x :: xs, a => by
    have ih := climb_iff xs x
    unfold climb
    by_cases h : x ≤ a ∨ 9 ≤ x
    · rw [if_pos h]
      constructor
      · intro e; cases e
      · rintro ⟨_, h2⟩
        have := h2 x (by simp)
        omega
    · rw [if_neg h, ih]
      rw [List.pairwise_cons]
      constructor
      · rintro ⟨h1, h2⟩
        refine ⟨⟨fun y hy => (h2 y hy).1, h1⟩, ?_⟩
        intro y hy
        rcases List.mem_cons.1 hy with rfl | hy
        · omega
        · have := h2 y hy; omega
      · rintro ⟨⟨h1, h1'⟩, h2⟩
        refine ⟨h1', fun y hy => ⟨h1 y hy, (h2 y (List.mem_cons_of_mem _ hy)).2⟩⟩
theorem climb_up (xs : List Int) : climb (-1) xs = true ↔ Up xs := by
  rw [climb_iff]; unfold Up
  constructor
  · rintro ⟨h, k⟩; exact ⟨h, fun x hx => by have := k x hx; omega⟩
  · rintro ⟨h, k⟩; exact ⟨h, fun x hx => by have := k x hx; omega⟩
theorem Up.nil : Up [] := ⟨List.Pairwise.nil, by simp⟩
theorem wrong_good {b : Bool} {xs : List Int} (h : Up xs) (hl : xs.length ≤ 7) (hn : b = true → xs ≠ []) : wrongOf b xs = 0 := by
  unfold wrongOf
  rw [if_neg (by rintro ⟨h1, h2⟩; exact hn h1 h2), if_neg (by omega), if_pos ((climb_up xs).2 h)]
theorem check_good {old new : List Int} (ho : Up old) (hlo : old.length ≤ 7) (hn : Up new) (hln : new.length ≤ 7) (hne : new ≠ []) : checkOf old new = 0 := by
  unfold checkOf
  rw [if_pos (wrong_good ho hlo (by simp)), wrong_good hn hln (fun _ => hne)]
theorem wrong_bound (b : Bool) (xs : List Int) : wrongOf b xs ≤ 4 := by unfold wrongOf; split <;> (try split) <;> (try split) <;> omega
theorem check_bound (o n : List Int) : checkOf o n ≤ 4 := by unfold checkOf; split <;> exact wrong_bound _ _

/-! ### rising lists with the same members are the same -/
theorem up_eq : ∀ (xs ys : List Int), xs.Pairwise (· < ·) → ys.Pairwise (· < ·) → (∀ z, z ∈ xs ↔ z ∈ ys) → xs = ys
  | [], [], _, _, _ => rfl
  | [], y :: ys, _, _, h => by have := (h y).2 (by simp); simp at this
  | x :: xs, [], _, _, h => by have := (h x).1 (by simp); simp at this
  | x :: xs, y :: ys, hx, hy, h => by
    rw [List.pairwise_cons] at hx hy
    have e : x = y := by
      have h1 := (h x).1 (by simp)
      have h2 := (h y).2 (by simp)
      rcases List.mem_cons.1 h1 with e | h1
      · exact e
      · rcases List.mem_cons.1 h2 with e | h2
        · exact e.symm
        · have a := hy.1 x h1; have b := hx.1 y h2; omega
    subst e
    rw [up_eq xs ys hx.2 hy.2 (fun z => ?_)]
    have hz := h z
    simp only [List.mem_cons] at hz
    constructor
    · intro k
      rcases hz.1 (Or.inr k) with e | e
      · subst e; exact absurd (hx.1 z k) (by omega)
      · exact e
    · intro k
      rcases hz.2 (Or.inr k) with e | e
      · subst e; exact absurd (hy.1 z k) (by omega)
      · exact e

/-! ### sorted, each once -/
theorem getBang (l : List Int) (j : Nat) (h : j < l.length) : l.toArray[j]! = l[j] := by simp [h]
theorem compact_upTo (l : List Int) (hs : l.Pairwise (· ≤ ·)) : ∀ m, m ≤ l.length →
    (Go.Lib.compactUpTo l.toArray m).Pairwise (· < ·) ∧ (∀ z, z ∈ Go.Lib.compactUpTo l.toArray m ↔ ∃ j, ∃ h : j < l.length, j < m ∧ l[j] = z)
  | 0, _ => by
    refine ⟨by simp [Go.Lib.compactUpTo], fun z => ?_⟩
    simp [Go.Lib.compactUpTo]
  | m + 1, hm => by
    obtain ⟨h1, h2⟩ := compact_upTo l hs m (by omega)
    have hml : m < l.length := by omega
    have hle : ∀ i j (hi : i < l.length) (hj : j < l.length), i ≤ j → l[i] ≤ l[j] := by
      intro i j hi hj hij
      rcases Nat.lt_or_ge i j with hlt | hge
      · exact (List.pairwise_iff_getElem.1 hs) i j hi hj hlt
      · have : i = j := by omega
        subst this; exact Int.le_refl _
    rw [Go.Lib.compactUpTo_succ, getBang l m hml]
    by_cases hk : Go.Lib.keeps l.toArray m = true
    · rw [if_pos hk]
      refine ⟨?_, fun z => ?_⟩
      · rw [List.pairwise_append]
        refine ⟨h1, by simp, fun a ha b hb => ?_⟩
        rw [List.mem_singleton] at hb; subst hb
        obtain ⟨j, hj, hjm, rfl⟩ := (h2 a).1 ha
        have hm0 : m ≠ 0 := by omega
        have hne : l[m] ≠ l[m - 1] := by
          simp only [Go.Lib.keeps, decide_eq_true_eq] at hk
          rcases hk with hk | hk
          · exact absurd hk hm0
          · rw [getBang l m hml, getBang l (m - 1) (by omega)] at hk; exact hk
        have a1 := hle j (m - 1) hj (by omega) (by omega)
        have a2 := hle (m - 1) m (by omega) hml (by omega)
        omega
      · rw [List.mem_append, h2, List.mem_singleton]
        constructor
        · rintro (⟨j, hj, hjm, e⟩ | e)
          · exact ⟨j, hj, by omega, e⟩
          · exact ⟨m, hml, by omega, e.symm⟩
        · rintro ⟨j, hj, hjm, e⟩
          by_cases hjm' : j < m
          · exact Or.inl ⟨j, hj, hjm', e⟩
          · have : j = m := by omega
            subst this; exact Or.inr e.symm
    · rw [if_neg hk, List.append_nil]
      refine ⟨h1, fun z => ?_⟩
      rw [h2]
      constructor
      · rintro ⟨j, hj, hjm, e⟩; exact ⟨j, hj, by omega, e⟩
      · rintro ⟨j, hj, hjm, e⟩
        by_cases hjm' : j < m
        · exact ⟨j, hj, hjm', e⟩
        · have : j = m := by omega
          subst this
          have hk' : ¬ (j = 0 ∨ l[j] ≠ l[j - 1]) := by
            intro hh
            apply hk
            simp only [Go.Lib.keeps, decide_eq_true_eq]
            rw [getBang l j hml, getBang l (j - 1) (by omega)]; exact hh
          have hj0 : j ≠ 0 := fun h0 => hk' (Or.inl h0)
          have he : l[j] = l[j - 1] := by
            by_cases he : l[j] = l[j - 1]
            · exact he
            · exact absurd (Or.inr he) hk'
          exact ⟨j - 1, by omega, by omega, by rw [← he]; exact e⟩
theorem ris_sorted (xs : List Int) : (ris xs).Pairwise (· < ·) := by
  have hs : (xs.mergeSort fun x y => decide (x ≤ y)).Pairwise (· ≤ ·) := by
    have := List.pairwise_mergeSort (le := fun x y : Int => decide (x ≤ y)) (by intro a b c; simp; omega) (by intro a b; simp; omega) xs
    exact this.imp (by intro a b h; simpa using h)
  exact (compact_upTo _ hs _ (Nat.le_refl _)).1
theorem mem_ris (xs : List Int) (z : Int) : z ∈ ris xs ↔ z ∈ xs := by
  have hs : (xs.mergeSort fun x y => decide (x ≤ y)).Pairwise (· ≤ ·) := by
    have := List.pairwise_mergeSort (le := fun x y : Int => decide (x ≤ y)) (by intro a b c; simp; omega) (by intro a b; simp; omega) xs
    exact this.imp (by intro a b h; simpa using h)
  have h := (compact_upTo _ hs _ (Nat.le_refl _)).2 z
  have e : Go.Lib.compactUpTo (xs.mergeSort fun x y => decide (x ≤ y)).toArray (xs.mergeSort fun x y => decide (x ≤ y)).length = ris xs := rfl
  rw [e] at h
  rw [h]
  have hp := List.mergeSort_perm xs (fun x y : Int => decide (x ≤ y))
  rw [← hp.mem_iff]
  rw [List.mem_iff_getElem]
  constructor
  · rintro ⟨j, hj, _, e⟩; exact ⟨j, hj, e⟩
  · rintro ⟨j, hj, e⟩; exact ⟨j, hj, hj, e⟩
theorem contains_ris (xs : List Int) (z : Int) : (ris xs).contains z = xs.contains z := by
  rw [Bool.eq_iff_iff, List.contains_iff_mem, List.contains_iff_mem]; exact mem_ris xs z
theorem cnt_ris (l xs : List Int) : cnt l (ris xs) = cnt l xs := by
  unfold cnt; congr 1; funext z; exact contains_ris xs z
theorem half_ris (l xs : List Int) : k_half l (ris xs) = k_half l xs := by unfold k_half; rw [cnt_ris]
theorem ris_length (xs : List Int) : (ris xs).length ≤ xs.length := by
  unfold ris Go.Lib.compact Go.Lib.compactUpTo
  rw [List.length_map]
  refine Nat.le_trans (List.length_filter_le _ _) ?_
  simp

/-! ### lists of bits -/
def lst (β : Nat → Bool) : Nat → List Int
  | 0 => []
  | k + 1 => if (lst β k).length < 7 ∧ β k = true then lst β k ++ [(k : Int)] else lst β k
def allOf (β : Nat → Bool) : Nat → List Int
  | 0 => []
  | k + 1 => if β k = true then allOf β k ++ [(k : Int)] else allOf β k
def plainOf (β : Nat → Bool) : List Int := if lst β 9 = [] then [0] else lst β 9
theorem lst_up (β : Nat → Bool) : ∀ k, (lst β k).Pairwise (· < ·) ∧ (∀ x ∈ lst β k, 0 ≤ x ∧ x < k) ∧ (lst β k).length ≤ 7 ∧ (lst β k).length ≤ k
  | 0 => by simp [lst]
  | k + 1 => by
    obtain ⟨h1, h2, h3, h4⟩ := lst_up β k
    unfold lst
    by_cases h : (lst β k).length < 7 ∧ β k = true
    · rw [if_pos h]
      refine ⟨?_, ?_, by simp; omega, by simp; omega⟩
      · rw [List.pairwise_append]
        refine ⟨h1, by simp, fun a ha b hb => ?_⟩
        rw [List.mem_singleton] at hb; subst hb
        exact (h2 a ha).2
      · intro x hx
        rw [List.mem_append, List.mem_singleton] at hx
        rcases hx with hx | rfl
        · have := h2 x hx; omega
        · omega
    · rw [if_neg h]
      exact ⟨h1, fun x hx => by have := h2 x hx; omega, h3, by omega⟩
theorem all_up (β : Nat → Bool) : ∀ k, (allOf β k).Pairwise (· < ·) ∧ (∀ x ∈ allOf β k, 0 ≤ x ∧ x < k) ∧ (allOf β k).length ≤ k
  | 0 => by simp [allOf]
  | k + 1 => by
    obtain ⟨h1, h2, h3⟩ := all_up β k
    unfold allOf
    by_cases h : β k = true
    · rw [if_pos h]
      refine ⟨?_, ?_, by simp; omega⟩
      · rw [List.pairwise_append]
        refine ⟨h1, by simp, fun a ha b hb => ?_⟩
        rw [List.mem_singleton] at hb; subst hb
        exact (h2 a ha).2
      · intro x hx
        rw [List.mem_append, List.mem_singleton] at hx
        rcases hx with hx | rfl
        · have := h2 x hx; omega
        · omega
    · rw [if_neg h]
      exact ⟨h1, fun x hx => by have := h2 x hx; omega, by omega⟩
theorem lst_Up (β : Nat → Bool) : Up (lst β 9) := ⟨(lst_up β 9).1, (lst_up β 9).2.1⟩
theorem lst_len (β : Nat → Bool) : (lst β 9).length ≤ 7 := (lst_up β 9).2.2.1
theorem plain_Up (β : Nat → Bool) : Up (plainOf β) := by
  unfold plainOf; split
  · exact ⟨by simp, by simp⟩
  · exact lst_Up β
theorem plain_len (β : Nat → Bool) : (plainOf β).length ≤ 7 := by
  unfold plainOf; split
  · simp
  · exact lst_len β
theorem plain_ne (β : Nat → Bool) : plainOf β ≠ [] := by
  unfold plainOf; split
  · simp
  · assumption
theorem plain_pos (β : Nat → Bool) : 1 ≤ (plainOf β).length := by
  have := plain_ne β
  rcases h : plainOf β with _ | ⟨x, xs⟩
  · exact absurd h this
  · simp
/-- once there are seven, no more come. -/
theorem lst_full (β : Nat → Bool) {k : Nat} (h : ¬ (lst β k).length < 7) : ∀ d, lst β (k + d) = lst β k
  | 0 => rfl
  | d + 1 => by
    have e : lst β (k + (d + 1)) = if (lst β (k + d)).length < 7 ∧ β (k + d) = true then lst β (k + d) ++ [((k + d : Nat) : Int)] else lst β (k + d) := rfl
    rw [e, lst_full β h d, if_neg (fun hh => h hh.1)]

/-! ### majorities -/
theorem cnt_le (l yes : List Int) : cnt l yes ≤ l.length := List.countP_le_length
theorem cnt_nil (l : List Int) : cnt l [] = 0 := by
  unfold cnt
  rw [List.countP_eq_zero]; intro x _; simp
theorem half_nil (l : List Int) : k_half l [] = false := by unfold k_half; rw [cnt_nil]; simp
theorem cnt_mono (l x z : List Int) (h : ∀ a, a ∈ x → a ∈ z) : cnt l x ≤ cnt l z := by
  unfold cnt
  apply List.countP_mono_left
  intro a _ ha
  rw [List.contains_iff_mem] at ha ⊢; exact h a ha
theorem half_mono {l x z : List Int} (h : ∀ a, a ∈ x → a ∈ z) (hh : k_half l x = true) : k_half l z = true := by
  have := cnt_mono l x z h
  simp only [k_half, decide_eq_true_eq] at hh ⊢; omega
theorem quorum_mono {o n x z : List Int} (h : ∀ a, a ∈ x → a ∈ z) (hh : quorumOf o n x = true) : quorumOf o n z = true := by
  unfold quorumOf at hh ⊢
  rw [Bool.and_eq_true, Bool.or_eq_true] at hh ⊢
  refine ⟨half_mono h hh.1, ?_⟩
  rcases hh.2 with e | e
  · exact Or.inl e
  · exact Or.inr (half_mono h e)
theorem cnt_all (l z : List Int) (h : ∀ a, a ∈ l → a ∈ z) : cnt l z = l.length := by
  unfold cnt
  rw [List.countP_eq_length]
  intro a ha; rw [List.contains_iff_mem]; exact h a ha
theorem half_all {l z : List Int} (hl : l ≠ []) (h : ∀ a, a ∈ l → a ∈ z) : k_half l z = true := by
  have : l.length ≠ 0 := fun e => hl (List.length_eq_zero_iff.1 e)
  simp only [k_half, decide_eq_true_eq, cnt_all l z h]; omega
/-- two that share nothing are not both more than k_half. -/
theorem cnt_two : ∀ (l x y : List Int), (∀ a, a ∈ x → a ∈ y → False) → cnt l x + cnt l y ≤ l.length
  | [], x, y, _ => by simp [cnt]
  | a :: l, x, y, h => by
    have ih := cnt_two l x y h
    unfold cnt at ih ⊢
    rw [List.countP_cons, List.countP_cons, List.length_cons]
    have : ¬ (x.contains a = true ∧ y.contains a = true) := by
      rintro ⟨h1, h2⟩
      rw [List.contains_iff_mem] at h1 h2; exact h a h1 h2
    by_cases h1 : x.contains a = true
    · have h2 : ¬ y.contains a = true := fun k => this ⟨h1, k⟩
      rw [if_pos h1, if_neg h2]; omega
    · rw [if_neg h1]
      split <;> omega
theorem half_two {l x y : List Int} (h : ∀ a, a ∈ x → a ∈ y → False) : (k_half l x && k_half l y) = false := by
  have := cnt_two l x y h
  rw [Bool.eq_false_iff]
  intro e
  rw [Bool.and_eq_true] at e
  simp only [k_half, decide_eq_true_eq] at e; omega
/-- of a list whose members differ a front counts as many as it has. -/
theorem cnt_take : ∀ (l : List Int) (n : Nat), l.Pairwise (· < ·) → n ≤ l.length → cnt l (l.take n) = n
  | l, 0, _, _ => by rw [List.take_zero]; exact cnt_nil l
  | [], n + 1, _, h => by simp at h
  | a :: l, n + 1, hp, h => by
    rw [List.pairwise_cons] at hp
    have ih := cnt_take l n hp.2 (by simpa using h)
    unfold cnt at ih ⊢
    rw [List.take_succ_cons, List.countP_cons]
    have e1 : (a :: l.take n).contains a = true := by simp
    rw [if_pos e1]
    congr 1
    refine Eq.trans ?_ ih
    apply List.countP_congr
    intro b hb
    have hne : b ≠ a := by have := hp.1 b hb; omega
    rw [List.contains_iff_mem, List.contains_iff_mem, List.mem_cons]
    constructor
    · rintro (e | e)
      · exact absurd e hne
      · exact e
    · exact Or.inr
end Go.Proofs.YtjplhiflemmkfaaGreatDoor
namespace Go.Proofs.YtjplhiflemmkfaaGreatDoor
open Go.RowKit

theorem climb_cons (a x : Int) (xs : List Int) : climb a (x :: xs) = if x ≤ a ∨ 9 ≤ x then false else climb x xs := rfl
set_option maxHeartbeats 1000000 in
theorem climbs_any (ao : Option Addr) (n c : Nat) (xs : List Int) (hn : xs.length = n) (hl : n ≤ 1000000000) (w : World) (hx : IntsR w ao xs) :
    Calls Tryz.prog 234 #[.slice ao n c] w fun e w' => e = .returned (.bool (climb (-1) xs)) ∧ Below w.heap.size w w' := by
  obtain ⟨r, hr⟩ : ∃ r, climb (-1) xs = r := ⟨_, rfl⟩
  rw [hr]
  have HX := hide hx
  have HN := hide hn
  have HR := hide hr
  clear hx hn hr
  go_enter Tryz.func234, Tryz.ntmps234
  go_wp2_with fail
  go_loopw [8, 3, 5] (fun i s _ wr => ∃ (k : Nat) (a : Int), k ≤ n ∧ i = .int .i64 k ∧ s = .int .i64 a ∧ climb a (xs.drop k) = r ∧ Below w.heap.size w wr) (fun i _ _ _ => n - (intOf i).toNat)
  case atStart => exact ⟨0, -1, Nat.zero_le _, rfl, rfl, unhide HR, Below.refl _ _⟩
  case round =>
    obtain ⟨k, a, hk, rfl, rfl, hc, hbel⟩ := hrel
    have BEL := hide hbel
    clear hbel
    by_cases hlt : k < n
    · obtain ⟨a1, rfl, h1⟩ := (unhide HX) k (by rw [unhide HN]; exact hlt)
      have c1 : wr.cell? (a1.add k) = some (.int .i64 (xs.getD k 0)) := by rw [(unhide BEL).cell (blk_lt h1)]; exact h1
      rw [drop_getD (by rw [unhide HN]; exact hlt), climb_cons] at hc
      have q : (k : Int) < n := by omega
      clear h1
      obtain ⟨x, hxk⟩ : ∃ x, xs.getD k 0 = x := ⟨_, rfl⟩
      rw [hxk] at c1 hc
      have HC := hide hc
      clear hc hxk
      by_cases h1 : x ≤ a
      · have hrf : r = false := by rw [← unhide HC, if_pos (Or.inl h1)]
        subst hrf
        go_wp2
        go_ret
        exact ⟨rfl, unhide BEL⟩
      · by_cases h2 : 9 ≤ x
        · have hrf : r = false := by rw [← unhide HC, if_pos (Or.inr h2)]
          subst hrf
          go_wp2
          go_ret
          exact ⟨rfl, unhide BEL⟩
        · go_wp2
          go_roundw
          case rel =>
            refine ⟨k + 1, x, by omega, by go_num, rfl, ?_, unhide BEL⟩
            rw [← unhide HC, if_neg (by omega)]
          case measure => simp [intOf]; omega
    · have hrt : r = true := by
        rw [← hc, List.drop_eq_nil_of_le (by rw [unhide HN]; omega)]; rfl
      subst hrt
      go_wp2
      go_ret
      exact ⟨rfl, unhide BEL⟩

theorem len0 {xs : List Int} {n : Nat} (h : xs.length = n) (h0 : n = 0) : xs = [] := List.eq_nil_of_length_eq_zero (by omega)
set_option maxHeartbeats 1000000 in
theorem wrong_any (b : Bool) (z : Int) (hz : z = if b = true then 1 else 0) (ao : Option Addr) (n c : Nat) (xs : List Int) (hn : xs.length = n) (hl : n ≤ 1000000000) (w : World) (hx : IntsR w ao xs) :
    Calls Tryz.prog 170 #[.int .i64 z, .slice ao n c] w fun e w' => e = .returned (.int .i64 ((wrongOf b xs : Nat) : Int)) ∧ Below w.heap.size w w' := by
  have CL := hide (climbs_any ao n c xs hn hl w hx)
  obtain ⟨r, hr⟩ : ∃ r, climb (-1) xs = r := ⟨_, rfl⟩
  rw [hr] at CL
  have HR := hide hr
  have HN := hide hn
  clear hx hr
  by_cases h7 : (7 : Int) < n
  · have hw : wrongOf b xs = 4 := by
      unfold wrongOf
      rw [if_neg (by rintro ⟨_, e⟩; subst e; simp at hn; omega), if_pos (by omega)]
    have h0 : ¬ (n : Int) = 0 := by omega
    rw [hw]
    clear hw hn
    cases b <;> (simp at hz; subst hz; go_enter Tryz.func170, Tryz.ntmps170; go_wp2; go_ret; exact ⟨rfl, Below.refl _ _⟩)
  · by_cases h0 : (n : Int) = 0
    · have hxs := len0 hn (by omega)
      have hrt : r = true := by rw [← unhide HR, hxs]; rfl
      subst hrt
      cases b
      · have hw : wrongOf false xs = 0 := by rw [hxs]; rfl
        rw [hw]
        clear hw hn hxs
        simp at hz; subst hz
        obtain rfl : n = 0 := by omega
        go_enter Tryz.func170, Tryz.ntmps170
        go_wp2_with fail
        refine (unhide CL).mono ?_
        rintro e w1 ⟨rfl, b1⟩
        have B1 := hide b1
        clear b1 CL
        go_wp2
        go_ret
        exact ⟨rfl, unhide B1⟩
      · have hw : wrongOf true xs = 2 := by rw [hxs]; rfl
        rw [hw]
        clear hw hn hxs
        simp at hz; subst hz
        obtain rfl : n = 0 := by omega
        go_enter Tryz.func170, Tryz.ntmps170
        go_wp2
        go_ret
        exact ⟨rfl, Below.refl _ _⟩
    · have hw : wrongOf b xs = if r = true then 0 else 1 := by
        unfold wrongOf
        rw [if_neg (by rintro ⟨_, e⟩; subst e; simp at hn; omega), if_neg (by omega), unhide HR]
      rw [hw]
      clear hw hn
      cases b <;> cases r <;> (simp at hz; subst hz; go_enter Tryz.func170, Tryz.ntmps170; go_wp2_with fail; refine (unhide CL).mono ?_; rintro e w1 ⟨rfl, b1⟩; have B1 := hide b1; clear b1 CL; go_wp2; go_ret; exact ⟨rfl, unhide B1⟩)
end Go.Proofs.YtjplhiflemmkfaaGreatDoor
namespace Go.Proofs.YtjplhiflemmkfaaGreatDoor
open Go.RowKit

/-- the bit k of a number. -/
def k_bitOf (bits : Int) (k : Nat) : Bool := Go.bits BinOp.and IntKind.i64 (bits / 2 ^ k) 1 == 1
theorem lst_yes {β : Nat → Bool} {k : Nat} (h7 : (lst β k).length < 7) (h : β k = true) : lst β (k + 1) = lst β k ++ [(k : Int)] := if_pos ⟨h7, h⟩
theorem lst_no {β : Nat → Bool} {k : Nat} (h : β k = false) : lst β (k + 1) = lst β k := if_neg (fun e => by rw [h] at e; cases e.2)
theorem all_yes {β : Nat → Bool} {k : Nat} (h : β k = true) : allOf β (k + 1) = allOf β k ++ [(k : Int)] := if_pos h
theorem all_no {β : Nat → Bool} {k : Nat} (h : β k = false) : allOf β (k + 1) = allOf β k := if_neg (fun e => by rw [h] at e; cases e)
theorem k_one_int (w : World) (y : Int) : IntsR (w.alloc (.cells #[.int .i64 y] 3)) (some ⟨w.heap.size, 0, none⟩) [y] := fun i hi => by
  simp at hi; subst hi
  refine ⟨_, rfl, ?_⟩
  have := news_at (W := w) (cs := #[.int .i64 y]) (t := 3) 0 _ rfl
  exact this
theorem ret_slice {ao ao' : Option Addr} {n n' c : Nat} (h : n = n') (k : ao = ao') : Ending.returned (.slice ao n c) = .returned (.slice ao' n' c) := by rw [h, k]

set_option maxHeartbeats 1000000 in
theorem k_list_any (bits : Int) (w : World) : Calls Tryz.prog 47 #[.int .i64 bits] w fun e w' => ∃ v, e = .returned v ∧ Ir w.heap.size w' v (lst (k_bitOf bits) 9) ∧ Below w.heap.size w w' := by
  go_enter Tryz.func47, Tryz.ntmps47
  go_wp2_with fail
  go_loopw [4, 3] (fun i s wr => ∃ (k : Nat), k ≤ 9 ∧ i = .int .i64 k ∧ Ir w.heap.size wr s (lst (k_bitOf bits) k) ∧ Below w.heap.size w wr) (fun i _ _ => 9 - (intOf i).toNat)
  case atStart => exact ⟨0, Nat.zero_le _, rfl, Ir.nil _ _, Below.refl _ _⟩
  case round =>
    obtain ⟨k, hk, rfl, hown, hbel⟩ := hrel
    obtain ⟨ao, cap, rfl, hfr, hcap, _⟩ := hown.slice
    obtain ⟨l, hll⟩ : ∃ l, lst (k_bitOf bits) k = l := ⟨_, rfl⟩
    rw [hll] at hown hfr hcap
    rw [hll]
    obtain ⟨L, hL⟩ : ∃ L, l.length = L := ⟨_, rfl⟩
    rw [hL] at hown hcap
    rw [hL]
    have HLL := hide hll
    have HL := hide hL
    have HO := hide hown
    have BEL := hide hbel
    have sz := hbel.size
    have HCAP := hide hcap
    clear hown hfr hbel hll hL hcap
    by_cases hlt : k < 9
    · have q : (k : Int) < 9 := by omega
      by_cases h7 : (L : Int) < 7
      · by_cases hb : (Go.bits BinOp.and IntKind.i64 (bits / 2 ^ k) 1 == 1) = true
        · have YES := hide (lst_yes (β := k_bitOf bits) (k := k) (by rw [unhide HLL, unhide HL]; omega) hb)
          rw [unhide HLL] at YES
          go_wp2_with (at_builtin; refine wpList_app rfl (.tmp 19) (.tmp 21) rfl w.heap.size _ l rfl ((unhide HO).below ((Below.refl _ _).alloc (Nat.le_refl _) _)) (some ⟨wr.heap.size, 0, none⟩) 1 1 [(k : Int)] rfl rfl (k_one_int _ _) (by rw [unhide HL]; omega) (by simp; omega) ?_)
          intro v' w' own' g'
          have OWN := hide own'
          have B' := hide (((unhide HO).below ((Below.refl _ _).alloc (Nat.le_refl _) (.cells #[.int .i64 (k : Int)] 3))).grown g' ((unhide BEL).alloc sz _) (by simp; omega))
          clear own' g'
          go_wp2
          go_roundw
          case rel => exact ⟨k + 1, by omega, by go_num, by rw [unhide YES]; exact unhide OWN, unhide B'⟩
          case measure => simp [intOf]; omega
        · have hb : (Go.bits BinOp.and IntKind.i64 (bits / 2 ^ k) 1 == 1) = false := by simpa using hb
          have NO := hide (lst_no (β := k_bitOf bits) (k := k) hb)
          rw [unhide HLL] at NO
          go_wp2
          go_roundw
          case rel => exact ⟨k + 1, by omega, by go_num, by rw [unhide NO]; exact unhide HO, unhide BEL⟩
          case measure => simp [intOf]; omega
      · have FULL := hide (lst_full (k_bitOf bits) (k := k) (by rw [unhide HLL, unhide HL]; omega) (9 - k))
        rw [unhide HLL, show k + (9 - k) = 9 by omega] at FULL
        go_wp2
        go_ret
        exact ⟨_, rfl, by rw [unhide FULL]; exact unhide HO, unhide BEL⟩
    · obtain rfl : k = 9 := by omega
      go_wp2
      go_ret
      exact ⟨_, rfl, by rw [unhide HLL]; exact unhide HO, unhide BEL⟩
end Go.Proofs.YtjplhiflemmkfaaGreatDoor
namespace Go.Proofs.YtjplhiflemmkfaaGreatDoor
open Go.RowKit

set_option maxHeartbeats 1000000 in
theorem k_sameInts_any (a b : Option Addr) (n m ca cb : Nat) (xs ys : List Int) (hx : xs.length = n) (hy : ys.length = m) (hl : n ≤ 1000000000) (w : World) (ha : IntsR w a xs) (hb : IntsR w b ys) :
    Calls Tryz.prog 101 #[.slice a n ca, .slice b m cb] w fun e w' => e = .returned (.bool (decide (xs = ys))) ∧ Below w.heap.size w w' := by
  have HA := hide ha
  have HB := hide hb
  have HX := hide hx
  have HY := hide hy
  clear ha hb hx hy
  by_cases hnm : n = m
  · subst hnm
    obtain ⟨r, hr⟩ : ∃ r, decide (xs = ys) = r := ⟨_, rfl⟩
    rw [hr]
    have HR := hide hr
    clear hr
    go_enter Tryz.func101, Tryz.ntmps101
    go_wp2_with fail
    go_loopw [5] (fun i wr => ∃ k : Nat, k ≤ n ∧ i = .int .i64 k ∧ (∀ j, j < k → xs.getD j 0 = ys.getD j 0) ∧ Below w.heap.size w wr) (fun i _ => n - (intOf i).toNat)
    case atStart => exact ⟨0, Nat.zero_le _, rfl, fun j hj => by omega, Below.refl _ _⟩
    case round =>
      obtain ⟨k, hk, rfl, hall, hbel⟩ := hrel
      have HALL := hide hall
      have BEL := hide hbel
      clear hall hbel
      by_cases hlt : k < n
      · obtain ⟨a1, rfl, h1⟩ := (unhide HA) k (by rw [unhide HX]; exact hlt)
        obtain ⟨b1, rfl, h2⟩ := (unhide HB) k (by rw [unhide HY]; exact hlt)
        have c1 : wr.cell? (a1.add k) = some (.int .i64 (xs.getD k 0)) := by rw [(unhide BEL).cell (blk_lt h1)]; exact h1
        have c2 : wr.cell? (b1.add k) = some (.int .i64 (ys.getD k 0)) := by rw [(unhide BEL).cell (blk_lt h2)]; exact h2
        have q : (k : Int) < n := by omega
        clear h1 h2
        by_cases he : xs.getD k 0 = ys.getD k 0
        · have HE := hide he
          obtain ⟨y, hyk⟩ : ∃ y, ys.getD k 0 = y := ⟨_, rfl⟩
          rw [he, hyk] at c1
          rw [hyk] at c2
          have hne : (y != y) = false := by simp
          clear he hyk
          go_wp2_with fail
          go_quiet (fail)
          go_wp2
          go_roundw
          case rel =>
            refine ⟨k + 1, by omega, by go_num, fun j hj => ?_, (unhide BEL).trans ((drewN_below _ _).mono (unhide BEL).size)⟩
            by_cases hjk : j < k
            · exact unhide HALL j hjk
            · obtain rfl : j = k := by omega
              exact unhide HE
          case measure => simp [intOf]; omega
        · have hne : (xs.getD k 0 != ys.getD k 0) = true := by rw [bne_iff_ne]; exact he
          have hrf : r = false := by
            rw [← unhide HR]; exact decide_eq_false (fun e => he (by rw [e]))
          subst hrf
          clear he
          generalize xs.getD k 0 = x at *
          generalize ys.getD k 0 = y at *
          go_wp2_with fail
          go_quiet (fail)
          go_wp2
          go_ret
          exact ⟨rfl, (unhide BEL).trans ((drewN_below _ _).mono (unhide BEL).size)⟩
      · have hrt : r = true := by
          rw [← unhide HR]; exact decide_eq_true (ext_getD (by rw [unhide HX, unhide HY]) (fun j hj => unhide HALL j (by rw [unhide HX] at hj; omega)))
        subst hrt
        go_wp2
        go_ret
        exact ⟨rfl, unhide BEL⟩
  · have hrf : decide (xs = ys) = false := decide_eq_false (fun e => hnm (by rw [← unhide HX, ← unhide HY, e]))
    rw [hrf]
    have hne : ((n : Int) != (m : Int)) = true := by rw [bne_iff_ne]; omega
    clear hrf
    go_enter Tryz.func101, Tryz.ntmps101
    go_wp2
    go_ret
    exact ⟨rfl, Below.refl _ _⟩

set_option maxHeartbeats 1000000 in
theorem ysame_any (a b : Option Addr) (n m ca cb : Nat) (xs ys : List Int) (hx : xs.length = n) (hy : ys.length = m) (hl : n ≤ 1000000000) (w : World) (ha : IntsR w a xs) (hb : IntsR w b ys) :
    Calls Tryz.prog 95 #[.slice a n ca, .slice b m cb] w fun e w' => e = .returned (.bool (decide (xs = ys))) ∧ Below w.heap.size w w' := by
  have HA := hide ha
  have HB := hide hb
  have HX := hide hx
  have HY := hide hy
  clear ha hb hx hy
  by_cases hnm : n = m
  · subst hnm
    obtain ⟨r, hr⟩ : ∃ r, decide (xs = ys) = r := ⟨_, rfl⟩
    rw [hr]
    have HR := hide hr
    clear hr
    go_enter Tryz.func95, Tryz.ntmps95
    go_wp2_with fail
    go_loopw [5] (fun i wr => ∃ k : Nat, k ≤ n ∧ i = .int .i64 k ∧ (∀ j, j < k → xs.getD j 0 = ys.getD j 0) ∧ Below w.heap.size w wr) (fun i _ => n - (intOf i).toNat)
    case atStart => exact ⟨0, Nat.zero_le _, rfl, fun j hj => by omega, Below.refl _ _⟩
    case round =>
      obtain ⟨k, hk, rfl, hall, hbel⟩ := hrel
      have HALL := hide hall
      have BEL := hide hbel
      clear hall hbel
      by_cases hlt : k < n
      · obtain ⟨a1, rfl, h1⟩ := (unhide HA) k (by rw [unhide HX]; exact hlt)
        obtain ⟨b1, rfl, h2⟩ := (unhide HB) k (by rw [unhide HY]; exact hlt)
        have c1 : wr.cell? (a1.add k) = some (.int .i64 (xs.getD k 0)) := by rw [(unhide BEL).cell (blk_lt h1)]; exact h1
        have c2 : wr.cell? (b1.add k) = some (.int .i64 (ys.getD k 0)) := by rw [(unhide BEL).cell (blk_lt h2)]; exact h2
        have q : (k : Int) < n := by omega
        clear h1 h2
        by_cases he : xs.getD k 0 = ys.getD k 0
        · have HE := hide he
          obtain ⟨y, hyk⟩ : ∃ y, ys.getD k 0 = y := ⟨_, rfl⟩
          rw [he, hyk] at c1
          rw [hyk] at c2
          have hne : (y != y) = false := by simp
          clear he hyk
          go_wp2_with fail
          go_quiet (fail)
          go_wp2
          go_roundw
          case rel =>
            refine ⟨k + 1, by omega, by go_num, fun j hj => ?_, (unhide BEL).trans ((drewN_below _ _).mono (unhide BEL).size)⟩
            by_cases hjk : j < k
            · exact unhide HALL j hjk
            · obtain rfl : j = k := by omega
              exact unhide HE
          case measure => simp [intOf]; omega
        · have hne : (xs.getD k 0 != ys.getD k 0) = true := by rw [bne_iff_ne]; exact he
          have hrf : r = false := by
            rw [← unhide HR]; exact decide_eq_false (fun e => he (by rw [e]))
          subst hrf
          clear he
          generalize xs.getD k 0 = x at *
          generalize ys.getD k 0 = y at *
          go_wp2_with fail
          go_quiet (fail)
          go_wp2
          go_ret
          exact ⟨rfl, (unhide BEL).trans ((drewN_below _ _).mono (unhide BEL).size)⟩
      · have hrt : r = true := by
          rw [← unhide HR]; exact decide_eq_true (ext_getD (by rw [unhide HX, unhide HY]) (fun j hj => unhide HALL j (by rw [unhide HX] at hj; omega)))
        subst hrt
        go_wp2
        go_ret
        exact ⟨rfl, unhide BEL⟩
  · have hrf : decide (xs = ys) = false := decide_eq_false (fun e => hnm (by rw [← unhide HX, ← unhide HY, e]))
    rw [hrf]
    have hne : ((n : Int) != (m : Int)) = true := by rw [bne_iff_ne]; omega
    clear hrf
    go_enter Tryz.func95, Tryz.ntmps95
    go_wp2
    go_ret
    exact ⟨rfl, Below.refl _ _⟩

set_option maxHeartbeats 1000000 in
theorem k_equal_any (a b : Option Addr) (n m ca cb : Nat) (xs ys : List Int) (hx : xs.length = n) (hy : ys.length = m) (hl : n ≤ 1000000000) (w : World) (ha : IntsR w a xs) (hb : IntsR w b ys) :
    Calls Tryz.prog 141 #[.slice a n ca, .slice b m cb] w fun e w' => e = .returned (.bool (decide (xs = ys))) ∧ Below w.heap.size w w' := by
  have HA := hide ha
  have HB := hide hb
  have HX := hide hx
  have HY := hide hy
  clear ha hb hx hy
  by_cases hnm : n = m
  · subst hnm
    obtain ⟨r, hr⟩ : ∃ r, decide (xs = ys) = r := ⟨_, rfl⟩
    rw [hr]
    have HR := hide hr
    clear hr
    go_enter Tryz.func141, Tryz.ntmps141
    go_wp2_with fail
    go_loopw [13, 5] (fun i _ wr => ∃ k : Nat, k ≤ n ∧ i = .int .i64 k ∧ (∀ j, j < k → xs.getD j 0 = ys.getD j 0) ∧ Below w.heap.size w wr) (fun i _ _ => n - (intOf i).toNat)
    case atStart => exact ⟨0, Nat.zero_le _, rfl, fun j hj => by omega, Below.refl _ _⟩
    case round =>
      obtain ⟨k, hk, rfl, hall, hbel⟩ := hrel
      have HALL := hide hall
      have BEL := hide hbel
      clear hall hbel
      by_cases hlt : k < n
      · obtain ⟨a1, rfl, h1⟩ := (unhide HA) k (by rw [unhide HX]; exact hlt)
        obtain ⟨b1, rfl, h2⟩ := (unhide HB) k (by rw [unhide HY]; exact hlt)
        have c1 : wr.cell? (a1.add k) = some (.int .i64 (xs.getD k 0)) := by rw [(unhide BEL).cell (blk_lt h1)]; exact h1
        have c2 : wr.cell? (b1.add k) = some (.int .i64 (ys.getD k 0)) := by rw [(unhide BEL).cell (blk_lt h2)]; exact h2
        have q : (k : Int) < n := by omega
        clear h1 h2
        by_cases he : xs.getD k 0 = ys.getD k 0
        · have HE := hide he
          obtain ⟨y, hyk⟩ : ∃ y, ys.getD k 0 = y := ⟨_, rfl⟩
          rw [he, hyk] at c1
          rw [hyk] at c2
          have hne : (y != y) = false := by simp
          clear he hyk
          go_wp2_with fail
          go_quiet (fail)
          go_wp2
          go_roundw
          case rel =>
            refine ⟨k + 1, by omega, by go_num, fun j hj => ?_, (unhide BEL).trans ((drewN_below _ _).mono (unhide BEL).size)⟩
            by_cases hjk : j < k
            · exact unhide HALL j hjk
            · obtain rfl : j = k := by omega
              exact unhide HE
          case measure => simp [intOf]; omega
        · have hne : (xs.getD k 0 != ys.getD k 0) = true := by rw [bne_iff_ne]; exact he
          have hrf : r = false := by
            rw [← unhide HR]; exact decide_eq_false (fun e => he (by rw [e]))
          subst hrf
          clear he
          generalize xs.getD k 0 = x at *
          generalize ys.getD k 0 = y at *
          go_wp2_with fail
          go_quiet (fail)
          go_wp2
          go_ret
          exact ⟨rfl, (unhide BEL).trans ((drewN_below _ _).mono (unhide BEL).size)⟩
      · have hrt : r = true := by
          rw [← unhide HR]; exact decide_eq_true (ext_getD (by rw [unhide HX, unhide HY]) (fun j hj => unhide HALL j (by rw [unhide HX] at hj; omega)))
        subst hrt
        go_wp2
        go_ret
        exact ⟨rfl, unhide BEL⟩
  · have hrf : decide (xs = ys) = false := decide_eq_false (fun e => hnm (by rw [← unhide HX, ← unhide HY, e]))
    rw [hrf]
    have hne : ((n : Int) != (m : Int)) = true := by rw [bne_iff_ne]; omega
    clear hrf
    go_enter Tryz.func141, Tryz.ntmps141
    go_wp2
    go_ret
    exact ⟨rfl, Below.refl _ _⟩
end Go.Proofs.YtjplhiflemmkfaaGreatDoor
namespace Go.Proofs.YtjplhiflemmkfaaGreatDoor
open Go.RowKit
theorem box_at (w : World) (o : Obj) : (w.alloc o).heap[w.heap.size]? = some o := heap_alloc_new _ _
theorem two_cells {w : World} {B : Nat} {x y : Value} {t : TypeId} {fr : Nat × Nat} (h : w.heap[B]? = some (.cells #[x, y] t fr)) : w.cell? ⟨B, 0, none⟩ = some x ∧ w.cell? ⟨B, 1, none⟩ = some y := by
  constructor <;> simp [World.cell?, h]

theorem k_heap_lt {w : World} {k : Nat} {o : Obj} (h : w.heap[k]? = some o) : k < w.heap.size := by
  by_cases hh : k < w.heap.size
  · exact hh
  · rw [Array.getElem?_eq_none (by omega)] at h; cases h
theorem boxed (w : World) (x y : Value) : ∃ W, w.alloc (.cells #[x, y] 26) = W ∧ Below w.heap.size w W ∧ W.heap[w.heap.size]? = some (.cells #[x, y] 26 (0, 0)) ∧ W.heap.size = w.heap.size + 1 :=
  ⟨_, rfl, (Below.refl _ w).alloc (Nat.le_refl _) _, box_at _ _, by simp⟩
theorem Below.stay {w w' : World} (h : Below w.heap.size w w') {k : Nat} {o : Obj} (hk : w.heap[k]? = some o) : w'.heap[k]? = some o := (h.block k (k_heap_lt hk)).trans hk
theorem wr_nat (n : Nat) (h : n ≤ 1000000) : IntKind.i64.wrap (n : Int) = (n : Int) := IntWalk.i64_in _ (by omega)

set_option maxHeartbeats 1000000 in
theorem check_any (ao an : Option Addr) (no nn co cn : Nat) (old new : List Int) (hno : old.length = no) (hnn : new.length = nn) (hlo : no ≤ 1000000000) (hln : nn ≤ 1000000000) (w : World) (ho : IntsR w ao old) (hw : IntsR w an new) :
    Calls Tryz.prog 104 #[.agg #[.slice ao no co, .slice an nn cn]] w fun e w' => e = .returned (.int .i64 ((checkOf old new : Nat) : Int)) ∧ Below w.heap.size w w' := by
  obtain ⟨W, hW, bW, xW, _⟩ := boxed w (.slice ao no co) (.slice an nn cn)
  have W0 := hide (wrong_any false 0 rfl ao no co old hno hlo W (ho.below bW))
  have W1 := hide (fun (Y : World) (h : Below W.heap.size W Y) => wrong_any true 1 rfl an nn cn new hnn hln Y ((hw.below bW).below h))
  obtain ⟨R, hR⟩ : ∃ R, checkOf old new = R := ⟨_, rfl⟩
  rw [hR]
  obtain ⟨r0, h0⟩ : ∃ r0, wrongOf false old = r0 := ⟨_, rfl⟩
  obtain ⟨r1, h1⟩ : ∃ r1, wrongOf true new = r1 := ⟨_, rfl⟩
  have HR : Hid ((if r0 = 0 then r1 else r0) = R) := by
    show _ = _
    rw [← hR, ← h0, ← h1]; rfl
  rw [h0] at W0
  rw [h1] at W1
  have HW := hide hW
  have BW := hide bW
  have XW := hide xW
  clear hW bW xW hR h0 h1 ho hw hno hnn
  go_enter Tryz.func104, Tryz.ntmps104
  go_wp2_with fail
  rw [unhide HW]
  refine (unhide W0).mono ?_
  rintro e w1 ⟨rfl, b1⟩
  have B1 := hide ((unhide BW).trans (b1.mono (unhide BW).size))
  obtain ⟨c0, c1⟩ := two_cells (Below.stay b1 (unhide XW))
  have W2 := hide (unhide W1 _ b1)
  clear b1 W0 W1 HW
  by_cases hz : r0 = 0
  · have HR2 : Hid (r1 = R) := by
      have := unhide HR
      rw [if_pos hz] at this; exact this
    subst hz
    clear HR
    go_wp2_with fail
    refine (unhide W2).mono ?_
    rintro e w2 ⟨rfl, b2⟩
    have B2 := hide ((unhide B1).trans (b2.mono (unhide B1).size))
    obtain rfl := unhide HR2
    clear b2 W2 HR2
    go_wp2
    go_ret
    exact ⟨rfl, unhide B2⟩
  · have hz' : ((r0 : Int) != 0) = true := by rw [bne_iff_ne]; omega
    obtain rfl : r0 = R := by
      have := unhide HR
      rw [if_neg hz] at this; exact this
    clear HR hz
    go_wp2
    go_ret
    exact ⟨rfl, unhide B1⟩
end Go.Proofs.YtjplhiflemmkfaaGreatDoor
