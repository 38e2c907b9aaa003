/- Votes by slots, what is told of them, which one is picked: plain lists. -/
import Derived.Test.YtijohafalcifpaaVBase
namespace Go.Proofs.Ytijohafalcifpaa

/-- what was accepted, by slots: a ballot and an entry. -/
abbrev Vf := Int → Option (Int × En)
def Vf.none : Vf := fun _ => Option.none
def Vf.at (f : Vf) (s : Int) : List Vt := match f s with
  | some be => [⟨s, be.1, be.2⟩]
  | Option.none => []
def Vf.put (f : Vf) (s b : Int) (e : En) : Vf := fun x => if x = s then some (b, e) else f x
/-- the votes of n slots from a on. -/
def toldN (f : Vf) (a : Int) : Nat → List Vt
  | 0 => []
  | n + 1 => toldN f a n ++ f.at (a + n)
def toldOf (f : Vf) (frm : Int) : List Vt := toldN f (max frm 1) (65 - max frm 1).toNat
def allOf (f : Vf) : List Vt := toldN f 1 64

theorem toldN_add (f : Vf) (a : Int) (m n : Nat) : toldN f a (m + n) = toldN f a m ++ toldN f (a + m) n := by
  induction n with
  | zero => simp [toldN]
  | succ n ih =>
    rw [Nat.add_succ, toldN, ih, toldN, List.append_assoc]
    congr 2
    rw [show a + ((m + n : Nat) : Int) = a + m + n by omega]
theorem at_slot {f : Vf} {s : Int} {v : Vt} (h : v ∈ f.at s) : v.slot = s ∧ f s = some (v.ballot, v.e) := by
  unfold Vf.at at h
  split at h
  · rename_i be hbe
    simp at h; subst h
    exact ⟨rfl, hbe⟩
  · simp at h
theorem toldN_slot {f : Vf} {a : Int} {n : Nat} {v : Vt} (h : v ∈ toldN f a n) : a ≤ v.slot ∧ v.slot < a + n ∧ f v.slot = some (v.ballot, v.e) := by
  induction n with
  | zero => simp [toldN] at h
  | succ n ih =>
    rw [toldN, List.mem_append] at h
    rcases h with h | h
    · obtain ⟨h1, h2, h3⟩ := ih h; exact ⟨h1, by omega, h3⟩
    · obtain ⟨h1, h2⟩ := at_slot h
      exact ⟨by omega, by omega, by rw [h1]; exact h2⟩
theorem toldN_len (f : Vf) (a : Int) (n : Nat) : (toldN f a n).length ≤ n := by
  induction n with
  | zero => simp [toldN]
  | succ n ih =>
    rw [toldN, List.length_append]
    have : (f.at (a + n)).length ≤ 1 := by unfold Vf.at; split <;> simp
    omega
theorem toldOf_len (f : Vf) (frm : Int) : (toldOf f frm).length ≤ 64 := by
  have := toldN_len f (max frm 1) (65 - max frm 1).toNat
  unfold toldOf; omega
theorem toldOf_one (f : Vf) : toldOf f 1 = allOf f := rfl
theorem toldN_congr {f g : Vf} {a : Int} {n : Nat} (h : ∀ s, a ≤ s → s < a + n → f s = g s) : toldN f a n = toldN g a n := by
  induction n with
  | zero => rfl
  | succ n ih =>
    rw [toldN, toldN, ih (fun s h1 h2 => h s h1 (by omega))]
    congr 1
    unfold Vf.at
    rw [h (a + n) (by omega) (by omega)]
theorem filter_all {l : List Vt} {p : Vt → Bool} (h : ∀ v ∈ l, p v = true) : l.filter p = l := List.filter_eq_self.2 h
theorem filter_none {l : List Vt} {p : Vt → Bool} (h : ∀ v ∈ l, p v = false) : l.filter p = [] := by
  rw [List.filter_eq_nil_iff]; intro v hv; rw [h v hv]; simp
/-- the votes of slots at a number or above, of all of them. -/
theorem told_filter (f : Vf) (frm : Int) : (allOf f).filter (fun v => decide (frm ≤ v.slot)) = toldOf f frm := by
  by_cases h1 : frm ≤ 1
  · have e : toldOf f frm = allOf f := by unfold toldOf allOf; rw [show max frm 1 = 1 by omega]; rfl
    rw [e]
    exact filter_all (fun v hv => by have := toldN_slot hv; simp; omega)
  · by_cases h2 : frm ≤ 64
    · obtain ⟨m, hm⟩ : ∃ m : Nat, frm = 1 + m := ⟨(frm - 1).toNat, by omega⟩
      have e : allOf f = toldN f 1 m ++ toldN f (1 + m) (64 - m) := by
        unfold allOf; rw [← toldN_add]; congr 1; omega
      rw [e, List.filter_append, filter_none (fun v hv => by have := toldN_slot hv; simp; omega), filter_all (fun v hv => by have := toldN_slot hv; simp; omega)]
      unfold toldOf
      rw [show max frm 1 = 1 + (m : Int) by omega, show (65 - (1 + (m : Int))).toNat = 64 - m by omega]; rfl
    · have e : toldOf f frm = [] := by unfold toldOf; rw [show (65 - max frm 1).toNat = 0 by omega]; rfl
      rw [e]
      exact filter_none (fun v hv => by have := toldN_slot hv; simp; omega)
/-- all votes, apart at a slot. -/
theorem all_split (f : Vf) {s : Int} (h1 : 1 ≤ s) (h2 : s ≤ 64) : allOf f = toldN f 1 (s - 1).toNat ++ (f.at s ++ toldN f (s + 1) (64 - s).toNat) := by
  obtain ⟨m, hm⟩ : ∃ m : Nat, s = 1 + m := ⟨(s - 1).toNat, by omega⟩
  subst hm
  unfold allOf
  rw [show (1 + (m : Int) - 1).toNat = m by omega, show (64 - (1 + (m : Int))).toNat = 63 - m by omega]
  have e : (64 : Nat) = m + (1 + (63 - m)) := by omega
  have e1 : toldN f (1 + m) 1 = f.at (1 + m) := by simp [toldN]
  calc toldN f 1 64 = toldN f 1 (m + (1 + (63 - m))) := by rw [← e]
    _ = toldN f 1 m ++ toldN f (1 + m) (1 + (63 - m)) := toldN_add f 1 m _
    _ = toldN f 1 m ++ (toldN f (1 + m) 1 ++ toldN f (1 + m + 1) (63 - m)) := by rw [toldN_add]; rfl
    _ = _ := by rw [e1]
theorem put_at (f : Vf) (s b : Int) (e : En) : (f.put s b e).at s = [⟨s, b, e⟩] := by simp [Vf.at, Vf.put]
theorem all_put (f : Vf) {s b : Int} {e : En} (h1 : 1 ≤ s) (h2 : s ≤ 64) : allOf (f.put s b e) = toldN f 1 (s - 1).toNat ++ ([⟨s, b, e⟩] ++ toldN f (s + 1) (64 - s).toNat) := by
  rw [all_split _ h1 h2, put_at, toldN_congr (f := f.put s b e) (g := f) (a := 1), toldN_congr (f := f.put s b e) (g := f) (a := s + 1)]
  · intro x hx _; unfold Vf.put; rw [if_neg (by omega)]
  · intro x _ hx; unfold Vf.put; rw [if_neg (by omega)]

/-! ### which vote is picked -/
def balAt (l : List Vt) (b : Nat) : Int := match l[b]? with
  | some u => u.ballot
  | none => 0
theorem balAt_some {l : List Vt} {b : Nat} {u : Vt} (h : l[b]? = some u) : balAt l b = u.ballot := by unfold balAt; rw [h]
def best (l : List Vt) (slot : Int) : Nat → Option Nat
  | 0 => none
  | k + 1 => match l[k]?, best l slot k with
    | some v, none => if v.slot = slot then some k else none
    | some v, some b => if v.slot = slot ∧ balAt l b < v.ballot then some k else some b
    | none, r => r
def pickOf (l : List Vt) (slot : Int) : Option Vt := match best l slot l.length with
  | some b => l[b]?
  | none => none
theorem best_lt {l : List Vt} {slot : Int} {k b : Nat} (h : best l slot k = some b) : b < k ∧ b < l.length := by
  induction k with
  | zero => simp [best] at h
  | succ k ih =>
    unfold best at h
    split at h
    · rename_i v hv _
      have := (List.getElem?_eq_some_iff.1 hv).1
      split at h
      · cases h; exact ⟨by omega, this⟩
      · cases h
    · rename_i v b' hv hb
      have := (List.getElem?_eq_some_iff.1 hv).1
      split at h
      · cases h; exact ⟨by omega, this⟩
      · cases h; have := ih hb; omega
    · have := ih h; omega
theorem best_none {l : List Vt} {slot : Int} {k : Nat} (h : best l slot k = none) : ∀ i v, i < k → l[i]? = some v → v.slot ≠ slot := by
  induction k with
  | zero => intro i v hi; omega
  | succ k ih =>
    intro i v hi hv
    unfold best at h
    split at h
    · rename_i u hu hb
      split at h
      · cases h
      · by_cases e : i = k
        · subst e; rw [hv] at hu; cases hu; assumption
        · exact ih hb i v (by omega) hv
    · split at h <;> cases h
    · rename_i hn
      by_cases e : i = k
      · subst e; simp_all
      · exact ih h i v (by omega) hv
theorem best_some {l : List Vt} {slot : Int} {k b : Nat} (h : best l slot k = some b) : ∃ u, l[b]? = some u ∧ u.slot = slot ∧ ∀ i v, i < k → l[i]? = some v → v.slot = slot → v.ballot ≤ u.ballot := by
  induction k generalizing b with
  | zero => simp [best] at h
  | succ k ih =>
    unfold best at h
    split at h
    · rename_i v hv hb
      split at h
      · rename_i hs
        cases h
        refine ⟨v, hv, hs, fun i x hi hx hxs => ?_⟩
        by_cases e : i = k
        · subst e; rw [hv] at hx; cases hx; omega
        · exact absurd hxs (best_none hb i x (by omega) hx)
      · cases h
    · rename_i v b' hv hb
      obtain ⟨u, hu, hus, hall⟩ := ih hb
      rw [balAt_some hu] at h
      split at h
      · rename_i hs
        cases h
        refine ⟨v, hv, hs.1, fun i x hi hx hxs => ?_⟩
        by_cases e : i = k
        · subst e; rw [hv] at hx; cases hx; omega
        · have := hall i x (by omega) hx hxs; have := hs.2; omega
      · rename_i hs
        cases h
        refine ⟨u, hu, hus, fun i x hi hx hxs => ?_⟩
        by_cases e : i = k
        · subst e; rw [hv] at hx; cases hx
          have := fun hh => hs ⟨hxs, hh⟩
          omega
        · exact hall i x (by omega) hx hxs
    · rename_i hn
      obtain ⟨u, hu, hus, hall⟩ := ih h
      refine ⟨u, hu, hus, fun i x hi hx hxs => ?_⟩
      by_cases e : i = k
      · subst e; simp_all
      · exact hall i x (by omega) hx hxs
theorem best_step {l : List Vt} {slot : Int} {k : Nat} {v : Vt} (hv : l[k]? = some v) : best l slot (k + 1) = match best l slot k with
    | none => if v.slot = slot then some k else none
    | some b => if v.slot = slot ∧ balAt l b < v.ballot then some k else some b := by
  conv => lhs; unfold best
  rw [hv]
  cases best l slot k <;> rfl
end Go.Proofs.Ytijohafalcifpaa
