/- What a trace tells: plain. -/
import Derived.Test.YtndpkpkijfplaaaUEsR
namespace Go.Proofs.Ytndpkpkijfplaaa
open Go.RowKit

structure Ev where
  kind : Int
  client : Int
  seq : Int
  index : Int
  entry : En
  es : List En

abbrev sameP (a b : En) : Prop := a.kind = b.kind ∧ a.client = b.client ∧ a.seq = b.seq ∧ a.text = b.text ∧ a.ms = b.ms ∧ a.dest = b.dest
theorem sameP_eq {a b : En} (h : sameP a b) : a = b := by
  obtain ⟨h1, h2, h3, h4, h5, h6⟩ := h
  cases a; cases b; simp_all
theorem sameP_self (a : En) : sameP a a := ⟨rfl, rfl, rfl, rfl, rfl, rfl⟩
/-- two lists are the same. -/
def sameEs : List En → List En → Bool
  | [], [] => true
  | a :: r, b :: t => decide (sameP a b) && sameEs r t
  | _, _ => false
theorem sameEs_iff (a : List En) : ∀ b, sameEs a b = true ↔ a = b := by
  induction a with
  | nil => intro b; cases b <;> simp [sameEs]
  | cons x r ih =>
    intro b
    cases b with
    | nil => simp [sameEs]
    | cons y t =>
      simp only [sameEs, Bool.and_eq_true, ih]
      constructor
      · rintro ⟨h1, rfl⟩; rw [sameP_eq (of_decide_eq_true h1)]
      · intro h; cases h; exact ⟨decide_eq_true (sameP_self _), rfl⟩
theorem sameEs_no {a b : List En} (h : a ≠ b) : sameEs a b = false := by
  cases e : sameEs a b with
  | false => rfl
  | true => exact absurd ((sameEs_iff a b).1 e) h
/-- what is known: which entry was called, where each request stands, who stands where. -/
structure Kn where
  calls : Int → Int → Option En
  place : Int → Int → Option Int
  holder : Int → Option (Int × Int)
def Kn.nothing : Kn := ⟨fun _ _ => none, fun _ _ => none, fun _ => none⟩
def upd2 {α : Type} (f : Int → Int → Option α) (c s : Int) (v : α) (x y : Int) : Option α := if x = c ∧ y = s then some v else f x y
def upd1 {α : Type} (f : Int → Option α) (c : Int) (v : α) (x : Int) : Option α := if x = c then some v else f x
abbrev isReq (k : Int) : Prop := k = 1 ∨ k = 2 ∨ k = 3
/-- an entry may be what a request is called with. -/
abbrev mayCall (c s : Int) (e : En) : Prop := isReq e.kind ∧ e.client = c ∧ e.seq = s ∧ 1 ≤ c ∧ 1 ≤ s
def Kn.call (S : Kn) (c s : Int) (e : En) : Option Kn :=
  if mayCall c s e then
    match S.calls c s with
    | some was => if sameP was e then some S else none
    | none => some { S with calls := upd2 S.calls c s e }
  else none
theorem call_new {S : Kn} {c s : Int} {e : En} (h : mayCall c s e) (h0 : S.calls c s = none) : S.call c s e = some ⟨upd2 S.calls c s e, S.place, S.holder⟩ := by
  unfold Kn.call; rw [if_pos h, h0]
theorem call_again {S : Kn} {c s : Int} {e was : En} (h : mayCall c s e) (h0 : S.calls c s = some was) : S.call c s e = if sameP was e then some S else none := by
  unfold Kn.call; rw [if_pos h, h0]
theorem call_no {S : Kn} {c s : Int} {e : En} (h : ¬ mayCall c s e) : S.call c s e = none := by unfold Kn.call; rw [if_neg h]
/-- a request may stand at a place. -/
abbrev Kn.mayStand (S : Kn) (c s p : Int) : Prop := (S.calls c s).isSome = true ∧ 1 ≤ p ∧ (S.place c s).getD p = p ∧ (S.holder p).getD (c, s) = (c, s)
def Kn.stand (S : Kn) (c s p : Int) : Kn := ⟨S.calls, upd2 S.place c s p, upd1 S.holder p (c, s)⟩
def Kn.settle : Kn → List (Int × Int × Int) → Option Kn
  | S, [] => some S
  | S, (c, s, p) :: r => if S.mayStand c s p then (S.stand c s p).settle r else none
/-- the greatest number of each client so far. -/
def topTo (es : List En) : Int → Int := es.foldl (fun g e x => if x = e.client then e.seq else g x) (fun _ => 0)
/-- an entry was called, just so. -/
def wasCalled (S : Kn) (e : En) : Bool := match S.calls e.client e.seq with
  | some was => decide (sameP was e)
  | none => false
abbrev mayReadE (S : Kn) (g : Int → Int) (e : En) : Prop := wasCalled S e = true ∧ g e.client < e.seq
/-- all of these may be read, behind one another. -/
def mayRead (S : Kn) (es : List En) : Bool := (List.range es.length).all fun i => match es[i]? with
  | some e => decide (mayReadE S (topTo (es.take i)) e)
  | none => true
def claimsFrom (k : Nat) : List En → List (Int × Int × Int)
  | [] => []
  | e :: r => (e.client, e.seq, (k : Int) + 1) :: claimsFrom (k + 1) r
def Kn.take (S : Kn) (v : Ev) : Option Kn :=
  if v.kind = 1 then S.call v.client v.seq v.entry
  else if v.kind = 3 then (if v.index = (v.es.length : Int) ∧ mayRead S v.es = true then S.settle (claimsFrom 0 v.es) else none)
  else if v.kind = 2 then S.settle [(v.client, v.seq, v.index)]
  else none
def checkGo : Kn → Nat → List Ev → Int
  | _, _, [] => -1
  | S, k, v :: r => match S.take v with
    | none => (k : Int)
    | some S' => checkGo S' (k + 1) r
def checkOf (vs : List Ev) : Int := checkGo .nothing 0 vs
/-- what is known behind some events, all of which may be. -/
def knowGo : Kn → List Ev → Option Kn
  | S, [] => some S
  | S, v :: r => (S.take v).bind fun S' => knowGo S' r
def knowOf (vs : List Ev) : Option Kn := knowGo .nothing vs

theorem knowGo_snoc (vs : List Ev) (v : Ev) : ∀ S, knowGo S (vs ++ [v]) = (knowGo S vs).bind fun S' => S'.take v := by
  induction vs with
  | nil => intro S; simp [knowGo]
  | cons x r ih =>
    intro S
    simp only [List.cons_append, knowGo]
    cases S.take x with
    | none => rfl
    | some S' => exact ih S'
theorem know_take {vs : List Ev} {k : Nat} {v : Ev} {S S' : Kn} (hv : vs[k]? = some v) (h : knowOf (vs.take k) = some S) (ht : S.take v = some S') : knowOf (vs.take (k + 1)) = some S' := by
  unfold knowOf at h ⊢
  rw [List.take_add_one, hv]
  simp only [Option.toList_some]
  rw [knowGo_snoc, h]; exact ht
theorem check_goes (vs : List Ev) : ∀ (S S' : Kn) (n : Nat), knowGo S vs = some S' → checkGo S n vs = -1 := by
  induction vs with
  | nil => intro S S' n _; rfl
  | cons x r ih =>
    intro S S' n h
    simp only [knowGo] at h
    simp only [checkGo]
    cases e : S.take x with
    | none => rw [e] at h; cases h
    | some S1 => rw [e] at h; exact ih S1 S' (n + 1) h
theorem check_all {vs : List Ev} {S : Kn} (h : knowOf vs = some S) : checkOf vs = -1 := check_goes vs _ _ _ h
theorem check_stops (vs : List Ev) : ∀ (S S' : Kn) (n k : Nat) (v : Ev), vs[k]? = some v → knowGo S (vs.take k) = some S' → S'.take v = none → checkGo S n vs = ((n + k : Nat) : Int) := by
  induction vs with
  | nil => intro S S' n k v hv; simp at hv
  | cons x r ih =>
    intro S S' n k v hv h ht
    cases k with
    | zero =>
      simp at hv
      subst hv
      simp [knowGo] at h
      subst h
      simp only [checkGo, ht, Nat.add_zero]
    | succ k =>
      simp only [List.take_succ_cons, knowGo] at h
      simp only [List.getElem?_cons_succ] at hv
      simp only [checkGo]
      cases e : S.take x with
      | none => rw [e] at h; cases h
      | some S1 =>
        rw [e] at h
        have hh := ih S1 S' (n + 1) k v hv h ht
        have e2 : n + 1 + k = n + (k + 1) := by omega
        rw [e2] at hh; exact hh
theorem check_at {vs : List Ev} {k : Nat} {v : Ev} {S : Kn} (hv : vs[k]? = some v) (h : knowOf (vs.take k) = some S) (ht : S.take v = none) : checkOf vs = (k : Int) := by
  have := check_stops vs _ _ 0 k v hv h ht
  rw [Nat.zero_add] at this; exact this
/-- Check tells -1, or the first event that may not be. -/
theorem check_cases (vs : List Ev) : (checkOf vs = -1 ∧ ∃ S, knowOf vs = some S) ∨ ∃ k v S, vs[k]? = some v ∧ knowOf (vs.take k) = some S ∧ S.take v = none ∧ checkOf vs = (k : Int) := by
  have go : ∀ n, n ≤ vs.length → (∃ S, knowOf (vs.take n) = some S) ∨ ∃ k v S, vs[k]? = some v ∧ knowOf (vs.take k) = some S ∧ S.take v = none ∧ checkOf vs = (k : Int) := fun n => by
    induction n with
    | zero => intro _; exact Or.inl ⟨_, rfl⟩
    | succ n ih =>
      intro hn
      rcases ih (by omega) with ⟨S, h⟩ | h
      · have hv : vs[n]? = some vs[n] := List.getElem?_eq_getElem (by omega)
        cases e : S.take vs[n] with
        | none => exact Or.inr ⟨n, _, S, hv, h, e, check_at hv h e⟩
        | some S' => exact Or.inl ⟨S', know_take hv h e⟩
      · exact Or.inr h
  rcases go vs.length (Nat.le_refl _) with ⟨S, h⟩ | h
  · rw [List.take_length] at h; exact Or.inl ⟨check_all h, S, h⟩
  · exact Or.inr h

theorem topTo_nil : topTo [] = fun _ => 0 := rfl
theorem topTo_snoc (es : List En) (e : En) : topTo (es ++ [e]) = fun x => if x = e.client then e.seq else topTo es x := by
  unfold topTo; rw [List.foldl_append]; rfl
theorem topTo_take {es : List En} {k : Nat} {e : En} (h : es[k]? = some e) : topTo (es.take (k + 1)) = fun x => if x = e.client then e.seq else topTo (es.take k) x := by
  rw [List.take_add_one, h]; exact topTo_snoc _ e
theorem mayRead_iff (S : Kn) (es : List En) : mayRead S es = true ↔ ∀ (i : Nat) (e : En), es[i]? = some e → mayReadE S (topTo (es.take i)) e := by
  unfold mayRead
  rw [List.all_eq_true]
  constructor
  · intro h i e hi
    have := h i (List.mem_range.2 (List.getElem?_eq_some_iff.1 hi).1)
    rw [hi] at this
    exact of_decide_eq_true this
  · intro h i _
    cases hi : es[i]? with
    | none => rfl
    | some e => exact decide_eq_true (h i e hi)
theorem mayRead_no {S : Kn} {es : List En} {i : Nat} {e : En} (hi : es[i]? = some e) (h : ¬ mayReadE S (topTo (es.take i)) e) : mayRead S es = false := by
  cases hm : mayRead S es with
  | false => rfl
  | true => exact absurd ((mayRead_iff S es).1 hm i e hi) h
theorem claims_len (es : List En) : ∀ k, (claimsFrom k es).length = es.length := by
  induction es with
  | nil => intro k; rfl
  | cons e r ih => intro k; simp [claimsFrom, ih]
theorem claims_at (es : List En) : ∀ (k i : Nat) (e : En), es[i]? = some e → (claimsFrom k es)[i]? = some (e.client, e.seq, ((k + i : Nat) : Int) + 1) := by
  induction es with
  | nil => intro k i e h; simp at h
  | cons x r ih =>
    intro k i e h
    cases i with
    | zero => simp at h; subst h; simp [claimsFrom]
    | succ i =>
      simp only [List.getElem?_cons_succ] at h
      simp only [claimsFrom, List.getElem?_cons_succ]
      rw [ih (k + 1) i e h]
      simp; omega
theorem settle_snoc (l : List (Int × Int × Int)) (c s p : Int) : ∀ S : Kn, S.settle (l ++ [(c, s, p)]) = (S.settle l).bind fun S' => if S'.mayStand c s p then some (S'.stand c s p) else none := by
  induction l with
  | nil => intro S; simp [Kn.settle]
  | cons x r ih =>
    intro S
    obtain ⟨a, b, d⟩ := x
    simp only [List.cons_append, Kn.settle]
    split
    · exact ih _
    · rfl
theorem settle_take {l : List (Int × Int × Int)} {k : Nat} {c s p : Int} {S S' : Kn} (hl : l[k]? = some (c, s, p)) (h : S.settle (l.take k) = some S') (hm : S'.mayStand c s p) : S.settle (l.take (k + 1)) = some (S'.stand c s p) := by
  rw [List.take_add_one, hl]
  simp only [Option.toList_some]
  rw [settle_snoc, h]; simp [hm]
theorem settle_none {l : List (Int × Int × Int)} : ∀ {k : Nat} {c s p : Int} {S S' : Kn}, l[k]? = some (c, s, p) → S.settle (l.take k) = some S' → ¬ S'.mayStand c s p → S.settle l = none := by
  induction l with
  | nil => intro k c s p S S' hl; simp at hl
  | cons x r ih =>
    intro k c s p S S' hl h hm
    obtain ⟨a, b, d⟩ := x
    cases k with
    | zero =>
      simp at hl
      obtain ⟨rfl, rfl, rfl⟩ := hl
      simp [Kn.settle] at h
      subst h
      simp only [Kn.settle]
      rw [if_neg hm]
    | succ k =>
      simp only [List.take_succ_cons, Kn.settle] at h
      simp only [List.getElem?_cons_succ] at hl
      simp only [Kn.settle]
      split at h
      · rename_i hh
        rw [if_pos hh]
        exact ih hl h hm
      · cases h
end Go.Proofs.Ytndpkpkijfplaaa
