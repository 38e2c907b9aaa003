/- Lists of members as plain lists: what is wrong with one, rising ones, majorities. No program is spoken of here. conf.climbs, conf.wrong, conf.Check: contracts. synodallaw8's List, Plain: contracts. conf.most, conf.Joint, conf.Quorum: contracts. -/
import Derived.Lib.SlicesCompact
import Derived.Test.YtgllokinadjiaaaGreatDoorNBase
namespace Go.Proofs.YtgllokinadjiaaaGreatDoor

/-- each above the one ahead, and below 9. -/
def climb : Int → List Int → Bool
  | _, [] => true
  | a, x :: xs => if x ≤ a ∨ 9 ≤ x then false else climb x xs
def wrongOf (newer : Bool) (xs : List Int) : Nat := if newer = true ∧ xs = [] then 2 else if 7 < xs.length then 4 else if climb (-1) xs then 0 else 1
def checkOf (old new : List Int) : Nat := if wrongOf false old = 0 then wrongOf true new else wrongOf false old
/-- rising, each once. -/
def ris (xs : List Int) : List Int := Go.Lib.compact (xs.mergeSort fun x y => decide (x ≤ y))
def cnt (l yes : List Int) : Nat := l.countP (yes.contains ·)
def half (l yes : List Int) : Bool := decide (l.length < 2 * cnt l yes)
def quorumOf (old new yes : List Int) : Bool := half new yes && (old.isEmpty || half old yes)
/-- such a list as may be. -/
def Up (xs : List Int) : Prop := xs.Pairwise (· < ·) ∧ ∀ x ∈ xs, 0 ≤ x ∧ x < 9

theorem climb_iff : ∀ (xs : List Int) (a : Int), climb a xs = true ↔ xs.Pairwise (· < ·) ∧ ∀ x ∈ xs, a < x ∧ x < 9
  | [], a => by simp [climb]
  | x :: xs, a => by
    have ih := climb_iff xs x
    unfold climb
    by_cases h : x ≤ a ∨ 9 ≤ x
    · rw [if_pos h]
      constructor
      · intro e; cases e
      · rintro ⟨_, h2⟩
        have := h2 x (by simp)
        omega
    · rw [if_neg h, ih]
      rw [List.pairwise_cons]
      constructor
      · rintro ⟨h1, h2⟩
        refine ⟨⟨fun y hy => (h2 y hy).1, h1⟩, ?_⟩
        intro y hy
        rcases List.mem_cons.1 hy with rfl | hy
        · omega
        · have := h2 y hy; omega
      · rintro ⟨⟨h1, h1'⟩, h2⟩
        refine ⟨h1', fun y hy => ⟨h1 y hy, (h2 y (List.mem_cons_of_mem _ hy)).2⟩⟩
theorem climb_up (xs : List Int) : climb (-1) xs = true ↔ Up xs := by
  rw [climb_iff]; unfold Up
  constructor
  · rintro ⟨h, k⟩; exact ⟨h, fun x hx => by have := k x hx; omega⟩
  · rintro ⟨h, k⟩; exact ⟨h, fun x hx => by have := k x hx; omega⟩
theorem Up.nil : Up [] := ⟨List.Pairwise.nil, by simp⟩
theorem wrong_good {b : Bool} {xs : List Int} (h : Up xs) (hl : xs.length ≤ 7) (hn : b = true → xs ≠ []) : wrongOf b xs = 0 := by
  unfold wrongOf
  rw [if_neg (by rintro ⟨h1, h2⟩; exact hn h1 h2), if_neg (by omega), if_pos ((climb_up xs).2 h)]
theorem check_good {old new : List Int} (ho : Up old) (hlo : old.length ≤ 7) (hn : Up new) (hln : new.length ≤ 7) (hne : new ≠ []) : checkOf old new = 0 := by
  unfold checkOf
  rw [if_pos (wrong_good ho hlo (by simp)), wrong_good hn hln (fun _ => hne)]
theorem wrong_bound (b : Bool) (xs : List Int) : wrongOf b xs ≤ 4 := by unfold wrongOf; split <;> (try split) <;> (try split) <;> omega
theorem check_bound (o n : List Int) : checkOf o n ≤ 4 := by unfold checkOf; split <;> exact wrong_bound _ _

/-! ### rising lists with the same members are the same -/
theorem up_eq : ∀ (xs ys : List Int), xs.Pairwise (· < ·) → ys.Pairwise (· < ·) → (∀ z, z ∈ xs ↔ z ∈ ys) → xs = ys
  | [], [], _, _, _ => rfl
  | [], y :: ys, _, _, h => by have := (h y).2 (by simp); simp at this
  | x :: xs, [], _, _, h => by have := (h x).1 (by simp); simp at this
  | x :: xs, y :: ys, hx, hy, h => by
    rw [List.pairwise_cons] at hx hy
    have e : x = y := by
      have h1 := (h x).1 (by simp)
      have h2 := (h y).2 (by simp)
      rcases List.mem_cons.1 h1 with e | h1
      · exact e
      · rcases List.mem_cons.1 h2 with e | h2
        · exact e.symm
        · have a := hy.1 x h1; have b := hx.1 y h2; omega
    subst e
    rw [up_eq xs ys hx.2 hy.2 (fun z => ?_)]
    have hz := h z
    simp only [List.mem_cons] at hz
    constructor
    · intro k
      rcases hz.1 (Or.inr k) with e | e
      · subst e; exact absurd (hx.1 z k) (by omega)
      · exact e
    · intro k
      rcases hz.2 (Or.inr k) with e | e
      · subst e; exact absurd (hy.1 z k) (by omega)
      · exact e

/-! ### sorted, each once -/
theorem getBang (l : List Int) (j : Nat) (h : j < l.length) : l.toArray[j]! = l[j] := by simp [h]
theorem compact_upTo (l : List Int) (hs : l.Pairwise (· ≤ ·)) : ∀ m, m ≤ l.length →
    (Go.Lib.compactUpTo l.toArray m).Pairwise (· < ·) ∧ (∀ z, z ∈ Go.Lib.compactUpTo l.toArray m ↔ ∃ j, ∃ h : j < l.length, j < m ∧ l[j] = z)
  | 0, _ => by
    refine ⟨by simp [Go.Lib.compactUpTo], fun z => ?_⟩
    simp [Go.Lib.compactUpTo]
  | m + 1, hm => by
    obtain ⟨h1, h2⟩ := compact_upTo l hs m (by omega)
    have hml : m < l.length := by omega
    have hle : ∀ i j (hi : i < l.length) (hj : j < l.length), i ≤ j → l[i] ≤ l[j] := by
      intro i j hi hj hij
      rcases Nat.lt_or_ge i j with hlt | hge
      · exact (List.pairwise_iff_getElem.1 hs) i j hi hj hlt
      · have : i = j := by omega
        subst this; exact Int.le_refl _
    rw [Go.Lib.compactUpTo_succ, getBang l m hml]
    by_cases hk : Go.Lib.keeps l.toArray m = true
    · rw [if_pos hk]
      refine ⟨?_, fun z => ?_⟩
      · rw [List.pairwise_append]
        refine ⟨h1, by simp, fun a ha b hb => ?_⟩
        rw [List.mem_singleton] at hb; subst hb
        obtain ⟨j, hj, hjm, rfl⟩ := (h2 a).1 ha
        have hm0 : m ≠ 0 := by omega
        have hne : l[m] ≠ l[m - 1] := by
          simp only [Go.Lib.keeps, decide_eq_true_eq] at hk
          rcases hk with hk | hk
          · exact absurd hk hm0
          · rw [getBang l m hml, getBang l (m - 1) (by omega)] at hk; exact hk
        have a1 := hle j (m - 1) hj (by omega) (by omega)
        have a2 := hle (m - 1) m (by omega) hml (by omega)
        omega
      · rw [List.mem_append, h2, List.mem_singleton]
        constructor
        · rintro (⟨j, hj, hjm, e⟩ | e)
          · exact ⟨j, hj, by omega, e⟩
          · exact ⟨m, hml, by omega, e.symm⟩
        · rintro ⟨j, hj, hjm, e⟩
          by_cases hjm' : j < m
          · exact Or.inl ⟨j, hj, hjm', e⟩
          · have : j = m := by omega
            subst this; exact Or.inr e.symm
    · rw [if_neg hk, List.append_nil]
      refine ⟨h1, fun z => ?_⟩
      rw [h2]
      constructor
      · rintro ⟨j, hj, hjm, e⟩; exact ⟨j, hj, by omega, e⟩
      · rintro ⟨j, hj, hjm, e⟩
        by_cases hjm' : j < m
        · exact ⟨j, hj, hjm', e⟩
        · have : j = m := by omega
          subst this
          have hk' : ¬ (j = 0 ∨ l[j] ≠ l[j - 1]) := by
            intro hh
            apply hk
            simp only [Go.Lib.keeps, decide_eq_true_eq]
            rw [getBang l j hml, getBang l (j - 1) (by omega)]; exact hh
          have hj0 : j ≠ 0 := fun h0 => hk' (Or.inl h0)
          have he : l[j] = l[j - 1] := by
            by_cases he : l[j] = l[j - 1]
            · exact he
            · exact absurd (Or.inr he) hk'
          exact ⟨j - 1, by omega, by omega, by rw [← he]; exact e⟩
theorem ris_sorted (xs : List Int) : (ris xs).Pairwise (· < ·) := by
  have hs : (xs.mergeSort fun x y => decide (x ≤ y)).Pairwise (· ≤ ·) := by
    have := List.pairwise_mergeSort (le := fun x y : Int => decide (x ≤ y)) (by intro a b c; simp; omega) (by intro a b; simp; omega) xs
    exact this.imp (by intro a b h; simpa using h)
  exact (compact_upTo _ hs _ (Nat.le_refl _)).1
theorem mem_ris (xs : List Int) (z : Int) : z ∈ ris xs ↔ z ∈ xs := by
  have hs : (xs.mergeSort fun x y => decide (x ≤ y)).Pairwise (· ≤ ·) := by
    have := List.pairwise_mergeSort (le := fun x y : Int => decide (x ≤ y)) (by intro a b c; simp; omega) (by intro a b; simp; omega) xs
    exact this.imp (by intro a b h; simpa using h)
  have h := (compact_upTo _ hs _ (Nat.le_refl _)).2 z
  have e : Go.Lib.compactUpTo (xs.mergeSort fun x y => decide (x ≤ y)).toArray (xs.mergeSort fun x y => decide (x ≤ y)).length = ris xs := rfl
  rw [e] at h
  rw [h]
  have hp := List.mergeSort_perm xs (fun x y : Int => decide (x ≤ y))
  rw [← hp.mem_iff]
  rw [List.mem_iff_getElem]
  constructor
  · rintro ⟨j, hj, _, e⟩; exact ⟨j, hj, e⟩
  · rintro ⟨j, hj, e⟩; exact ⟨j, hj, hj, e⟩
theorem contains_ris (xs : List Int) (z : Int) : (ris xs).contains z = xs.contains z := by
  rw [Bool.eq_iff_iff, List.contains_iff_mem, List.contains_iff_mem]; exact mem_ris xs z
theorem cnt_ris (l xs : List Int) : cnt l (ris xs) = cnt l xs := by
  unfold cnt; congr 1; funext z; exact contains_ris xs z
theorem half_ris (l xs : List Int) : half l (ris xs) = half l xs := by unfold half; rw [cnt_ris]
theorem ris_length (xs : List Int) : (ris xs).length ≤ xs.length := by
  unfold ris Go.Lib.compact Go.Lib.compactUpTo
  rw [List.length_map]
  refine Nat.le_trans (List.length_filter_le _ _) ?_
  simp

/-! ### lists of bits -/
def lst (β : Nat → Bool) : Nat → List Int
  | 0 => []
  | k + 1 => if (lst β k).length < 7 ∧ β k = true then lst β k ++ [(k : Int)] else lst β k
def allOf (β : Nat → Bool) : Nat → List Int
  | 0 => []
  | k + 1 => if β k = true then allOf β k ++ [(k : Int)] else allOf β k
def plainOf (β : Nat → Bool) : List Int := if lst β 9 = [] then [0] else lst β 9
theorem lst_up (β : Nat → Bool) : ∀ k, (lst β k).Pairwise (· < ·) ∧ (∀ x ∈ lst β k, 0 ≤ x ∧ x < k) ∧ (lst β k).length ≤ 7 ∧ (lst β k).length ≤ k
  | 0 => by simp [lst]
  | k + 1 => by
    obtain ⟨h1, h2, h3, h4⟩ := lst_up β k
    unfold lst
    by_cases h : (lst β k).length < 7 ∧ β k = true
    · rw [if_pos h]
      refine ⟨?_, ?_, by simp; omega, by simp; omega⟩
      · rw [List.pairwise_append]
        refine ⟨h1, by simp, fun a ha b hb => ?_⟩
        rw [List.mem_singleton] at hb; subst hb
        exact (h2 a ha).2
      · intro x hx
        rw [List.mem_append, List.mem_singleton] at hx
        rcases hx with hx | rfl
        · have := h2 x hx; omega
        · omega
    · rw [if_neg h]
      exact ⟨h1, fun x hx => by have := h2 x hx; omega, h3, by omega⟩
theorem all_up (β : Nat → Bool) : ∀ k, (allOf β k).Pairwise (· < ·) ∧ (∀ x ∈ allOf β k, 0 ≤ x ∧ x < k) ∧ (allOf β k).length ≤ k
  | 0 => by simp [allOf]
  | k + 1 => by
    obtain ⟨h1, h2, h3⟩ := all_up β k
    unfold allOf
    by_cases h : β k = true
    · rw [if_pos h]
      refine ⟨?_, ?_, by simp; omega⟩
      · rw [List.pairwise_append]
        refine ⟨h1, by simp, fun a ha b hb => ?_⟩
        rw [List.mem_singleton] at hb; subst hb
        exact (h2 a ha).2
      · intro x hx
        rw [List.mem_append, List.mem_singleton] at hx
        rcases hx with hx | rfl
        · have := h2 x hx; omega
        · omega
    · rw [if_neg h]
      exact ⟨h1, fun x hx => by have := h2 x hx; omega, by omega⟩
theorem lst_Up (β : Nat → Bool) : Up (lst β 9) := ⟨(lst_up β 9).1, (lst_up β 9).2.1⟩
theorem lst_len (β : Nat → Bool) : (lst β 9).length ≤ 7 := (lst_up β 9).2.2.1
theorem plain_Up (β : Nat → Bool) : Up (plainOf β) := by
  unfold plainOf; split
  · exact ⟨by simp, by simp⟩
  · exact lst_Up β
theorem plain_len (β : Nat → Bool) : (plainOf β).length ≤ 7 := by
  unfold plainOf; split
  · simp
  · exact lst_len β
theorem plain_ne (β : Nat → Bool) : plainOf β ≠ [] := by
  unfold plainOf; split
  · simp
  · assumption
theorem plain_pos (β : Nat → Bool) : 1 ≤ (plainOf β).length := by
  have := plain_ne β
  rcases h : plainOf β with _ | ⟨x, xs⟩
  · exact absurd h this
  · simp
/-- once there are seven, no more come. -/
theorem lst_full (β : Nat → Bool) {k : Nat} (h : ¬ (lst β k).length < 7) : ∀ d, lst β (k + d) = lst β k
  | 0 => rfl
  | d + 1 => by
    have e : lst β (k + (d + 1)) = if (lst β (k + d)).length < 7 ∧ β (k + d) = true then lst β (k + d) ++ [((k + d : Nat) : Int)] else lst β (k + d) := rfl
    rw [e, lst_full β h d, if_neg (fun hh => h hh.1)]

/-! ### majorities -/
theorem cnt_le (l yes : List Int) : cnt l yes ≤ l.length := List.countP_le_length
theorem cnt_nil (l : List Int) : cnt l [] = 0 := by
  unfold cnt
  rw [List.countP_eq_zero]; intro x _; simp
theorem half_nil (l : List Int) : half l [] = false := by unfold half; rw [cnt_nil]; simp
theorem cnt_mono (l x z : List Int) (h : ∀ a, a ∈ x → a ∈ z) : cnt l x ≤ cnt l z := by
  unfold cnt
  apply List.countP_mono_left
  intro a _ ha
  rw [List.contains_iff_mem] at ha ⊢; exact h a ha
theorem half_mono {l x z : List Int} (h : ∀ a, a ∈ x → a ∈ z) (hh : half l x = true) : half l z = true := by
  have := cnt_mono l x z h
  simp only [half, decide_eq_true_eq] at hh ⊢; omega
theorem quorum_mono {o n x z : List Int} (h : ∀ a, a ∈ x → a ∈ z) (hh : quorumOf o n x = true) : quorumOf o n z = true := by
  unfold quorumOf at hh ⊢
  rw [Bool.and_eq_true, Bool.or_eq_true] at hh ⊢
  refine ⟨half_mono h hh.1, ?_⟩
  rcases hh.2 with e | e
  · exact Or.inl e
  · exact Or.inr (half_mono h e)
theorem cnt_all (l z : List Int) (h : ∀ a, a ∈ l → a ∈ z) : cnt l z = l.length := by
  unfold cnt
  rw [List.countP_eq_length]
  intro a ha; rw [List.contains_iff_mem]; exact h a ha
theorem half_all {l z : List Int} (hl : l ≠ []) (h : ∀ a, a ∈ l → a ∈ z) : half l z = true := by
  have : l.length ≠ 0 := fun e => hl (List.length_eq_zero_iff.1 e)
  simp only [half, decide_eq_true_eq, cnt_all l z h]; omega
/-- two that share nothing are not both more than half. -/
theorem cnt_two : ∀ (l x y : List Int), (∀ a, a ∈ x → a ∈ y → False) → cnt l x + cnt l y ≤ l.length
  | [], x, y, _ => by simp [cnt]
  | a :: l, x, y, h => by
    have ih := cnt_two l x y h
    unfold cnt at ih ⊢
    rw [List.countP_cons, List.countP_cons, List.length_cons]
    have : ¬ (x.contains a = true ∧ y.contains a = true) := by
      rintro ⟨h1, h2⟩
      rw [List.contains_iff_mem] at h1 h2; exact h a h1 h2
    by_cases h1 : x.contains a = true
    · have h2 : ¬ y.contains a = true := fun k => this ⟨h1, k⟩
      rw [if_pos h1, if_neg h2]; omega
    · rw [if_neg h1]
      split <;> omega
theorem half_two {l x y : List Int} (h : ∀ a, a ∈ x → a ∈ y → False) : (half l x && half l y) = false := by
  have := cnt_two l x y h
  rw [Bool.eq_false_iff]
  intro e
  rw [Bool.and_eq_true] at e
  simp only [half, decide_eq_true_eq] at e; omega
/-- of a list whose members differ a front counts as many as it has. -/
theorem cnt_take : ∀ (l : List Int) (n : Nat), l.Pairwise (· < ·) → n ≤ l.length → cnt l (l.take n) = n
  | l, 0, _, _ => by rw [List.take_zero]; exact cnt_nil l
  | [], n + 1, _, h => by simp at h
  | a :: l, n + 1, hp, h => by
    rw [List.pairwise_cons] at hp
    have ih := cnt_take l n hp.2 (by simpa using h)
    unfold cnt at ih ⊢
    rw [List.take_succ_cons, List.countP_cons]
    have e1 : (a :: l.take n).contains a = true := by simp
    rw [if_pos e1]
    congr 1
    refine Eq.trans ?_ ih
    apply List.countP_congr
    intro b hb
    have hne : b ≠ a := by have := hp.1 b hb; omega
    rw [List.contains_iff_mem, List.contains_iff_mem, List.mem_cons]
    constructor
    · rintro (e | e)
      · exact absurd e hne
      · exact e
    · exact Or.inr
end Go.Proofs.YtgllokinadjiaaaGreatDoor
namespace Go.Proofs.YtgllokinadjiaaaGreatDoor
open Go.RowKit

theorem climb_cons (a x : Int) (xs : List Int) : climb a (x :: xs) = if x ≤ a ∨ 9 ≤ x then false else climb x xs := rfl
set_option maxHeartbeats 1000000 in
theorem climbs_any (ao : Option Addr) (n c : Nat) (xs : List Int) (hn : xs.length = n) (hl : n ≤ 1000000000) (w : World) (hx : IntsR w ao xs) :
    Calls Tryz.prog 75 #[.slice ao n c] w fun e w' => e = .returned (.bool (climb (-1) xs)) ∧ Below w.heap.size w w' := by
  obtain ⟨r, hr⟩ : ∃ r, climb (-1) xs = r := ⟨_, rfl⟩
  rw [hr]
  have HX := hide hx
  have HN := hide hn
  have HR := hide hr
  clear hx hn hr
  go_enter Tryz.func75, Tryz.ntmps75
  go_wp2_with fail
  go_loopw [8, 3, 5] (fun i s _ wr => ∃ (k : Nat) (a : Int), k ≤ n ∧ i = .int .i64 k ∧ s = .int .i64 a ∧ climb a (xs.drop k) = r ∧ Below w.heap.size w wr) (fun i _ _ _ => n - (intOf i).toNat)
  case atStart => exact ⟨0, -1, Nat.zero_le _, rfl, rfl, unhide HR, Below.refl _ _⟩
  case round =>
    obtain ⟨k, a, hk, rfl, rfl, hc, hbel⟩ := hrel
    have BEL := hide hbel
    clear hbel
    by_cases hlt : k < n
    · obtain ⟨a1, rfl, h1⟩ := (unhide HX) k (by rw [unhide HN]; exact hlt)
      have c1 : wr.cell? (a1.add k) = some (.int .i64 (xs.getD k 0)) := by rw [(unhide BEL).cell (blk_lt h1)]; exact h1
      rw [drop_getD (by rw [unhide HN]; exact hlt), climb_cons] at hc
      have q : (k : Int) < n := by omega
      clear h1
      obtain ⟨x, hxk⟩ : ∃ x, xs.getD k 0 = x := ⟨_, rfl⟩
      rw [hxk] at c1 hc
      have HC := hide hc
      clear hc hxk
      by_cases h1 : x ≤ a
      · have hrf : r = false := by rw [← unhide HC, if_pos (Or.inl h1)]
        subst hrf
        go_wp2
        go_ret
        exact ⟨rfl, unhide BEL⟩
      · by_cases h2 : 9 ≤ x
        · have hrf : r = false := by rw [← unhide HC, if_pos (Or.inr h2)]
          subst hrf
          go_wp2
          go_ret
          exact ⟨rfl, unhide BEL⟩
        · go_wp2
          go_roundw
          case rel =>
            refine ⟨k + 1, x, by omega, by go_num, rfl, ?_, unhide BEL⟩
            rw [← unhide HC, if_neg (by omega)]
          case measure => simp [intOf]; omega
    · have hrt : r = true := by
        rw [← hc, List.drop_eq_nil_of_le (by rw [unhide HN]; omega)]; rfl
      subst hrt
      go_wp2
      go_ret
      exact ⟨rfl, unhide BEL⟩

theorem len0 {xs : List Int} {n : Nat} (h : xs.length = n) (h0 : n = 0) : xs = [] := List.eq_nil_of_length_eq_zero (by omega)
set_option maxHeartbeats 1000000 in
theorem wrong_any (b : Bool) (z : Int) (hz : z = if b = true then 1 else 0) (ao : Option Addr) (n c : Nat) (xs : List Int) (hn : xs.length = n) (hl : n ≤ 1000000000) (w : World) (hx : IntsR w ao xs) :
    Calls Tryz.prog 68 #[.int .i64 z, .slice ao n c] w fun e w' => e = .returned (.int .i64 ((wrongOf b xs : Nat) : Int)) ∧ Below w.heap.size w w' := by
  have CL := hide (climbs_any ao n c xs hn hl w hx)
  obtain ⟨r, hr⟩ : ∃ r, climb (-1) xs = r := ⟨_, rfl⟩
  rw [hr] at CL
  have HR := hide hr
  have HN := hide hn
  clear hx hr
  by_cases h7 : (7 : Int) < n
  · have hw : wrongOf b xs = 4 := by
      unfold wrongOf
      rw [if_neg (by rintro ⟨_, e⟩; subst e; simp at hn; omega), if_pos (by omega)]
    have h0 : ¬ (n : Int) = 0 := by omega
    rw [hw]
    clear hw hn
    cases b <;> (simp at hz; subst hz; go_enter Tryz.func68, Tryz.ntmps68; go_wp2; go_ret; exact ⟨rfl, Below.refl _ _⟩)
  · by_cases h0 : (n : Int) = 0
    · have hxs := len0 hn (by omega)
      have hrt : r = true := by rw [← unhide HR, hxs]; rfl
      subst hrt
      cases b
      · have hw : wrongOf false xs = 0 := by rw [hxs]; rfl
        rw [hw]
        clear hw hn hxs
        simp at hz; subst hz
        obtain rfl : n = 0 := by omega
        go_enter Tryz.func68, Tryz.ntmps68
        go_wp2_with fail
        refine (unhide CL).mono ?_
        rintro e w1 ⟨rfl, b1⟩
        have B1 := hide b1
        clear b1 CL
        go_wp2
        go_ret
        exact ⟨rfl, unhide B1⟩
      · have hw : wrongOf true xs = 2 := by rw [hxs]; rfl
        rw [hw]
        clear hw hn hxs
        simp at hz; subst hz
        obtain rfl : n = 0 := by omega
        go_enter Tryz.func68, Tryz.ntmps68
        go_wp2
        go_ret
        exact ⟨rfl, Below.refl _ _⟩
    · have hw : wrongOf b xs = if r = true then 0 else 1 := by
        unfold wrongOf
        rw [if_neg (by rintro ⟨_, e⟩; subst e; simp at hn; omega), if_neg (by omega), unhide HR]
      rw [hw]
      clear hw hn
      cases b <;> cases r <;> (simp at hz; subst hz; go_enter Tryz.func68, Tryz.ntmps68; go_wp2_with fail; refine (unhide CL).mono ?_; rintro e w1 ⟨rfl, b1⟩; have B1 := hide b1; clear b1 CL; go_wp2; go_ret; exact ⟨rfl, unhide B1⟩)
end Go.Proofs.YtgllokinadjiaaaGreatDoor
namespace Go.Proofs.YtgllokinadjiaaaGreatDoor
open Go.RowKit

/-- the bit k of a number. -/
def bitOf (bits : Int) (k : Nat) : Bool := Go.bits BinOp.and IntKind.i64 (bits / 2 ^ k) 1 == 1
theorem lst_yes {β : Nat → Bool} {k : Nat} (h7 : (lst β k).length < 7) (h : β k = true) : lst β (k + 1) = lst β k ++ [(k : Int)] := if_pos ⟨h7, h⟩
theorem lst_no {β : Nat → Bool} {k : Nat} (h : β k = false) : lst β (k + 1) = lst β k := if_neg (fun e => by rw [h] at e; cases e.2)
theorem all_yes {β : Nat → Bool} {k : Nat} (h : β k = true) : allOf β (k + 1) = allOf β k ++ [(k : Int)] := if_pos h
theorem all_no {β : Nat → Bool} {k : Nat} (h : β k = false) : allOf β (k + 1) = allOf β k := if_neg (fun e => by rw [h] at e; cases e)
theorem one_int (w : World) (y : Int) : IntsR (w.alloc (.cells #[.int .i64 y] 3)) (some ⟨w.heap.size, 0, none⟩) [y] := fun i hi => by
  simp at hi; subst hi
  refine ⟨_, rfl, ?_⟩
  have := news_at (W := w) (cs := #[.int .i64 y]) (t := 3) 0 _ rfl
  exact this
theorem ret_slice {ao ao' : Option Addr} {n n' c : Nat} (h : n = n') (k : ao = ao') : Ending.returned (.slice ao n c) = .returned (.slice ao' n' c) := by rw [h, k]

set_option maxHeartbeats 1000000 in
theorem list_any (bits : Int) (w : World) : Calls Tryz.prog 31 #[.int .i64 bits] w fun e w' => ∃ v, e = .returned v ∧ Ir w.heap.size w' v (lst (bitOf bits) 9) ∧ Below w.heap.size w w' := by
  go_enter Tryz.func31, Tryz.ntmps31
  go_wp2_with fail
  go_loopw [4, 3] (fun i s wr => ∃ (k : Nat), k ≤ 9 ∧ i = .int .i64 k ∧ Ir w.heap.size wr s (lst (bitOf bits) k) ∧ Below w.heap.size w wr) (fun i _ _ => 9 - (intOf i).toNat)
  case atStart => exact ⟨0, Nat.zero_le _, rfl, Ir.nil _ _, Below.refl _ _⟩
  case round =>
    obtain ⟨k, hk, rfl, hown, hbel⟩ := hrel
    obtain ⟨ao, cap, rfl, hfr, hcap, _⟩ := hown.slice
    obtain ⟨l, hll⟩ : ∃ l, lst (bitOf bits) k = l := ⟨_, rfl⟩
    rw [hll] at hown hfr hcap
    rw [hll]
    obtain ⟨L, hL⟩ : ∃ L, l.length = L := ⟨_, rfl⟩
    rw [hL] at hown hcap
    rw [hL]
    have HLL := hide hll
    have HL := hide hL
    have HO := hide hown
    have BEL := hide hbel
    have sz := hbel.size
    have HCAP := hide hcap
    clear hown hfr hbel hll hL hcap
    by_cases hlt : k < 9
    · have q : (k : Int) < 9 := by omega
      by_cases h7 : (L : Int) < 7
      · by_cases hb : (Go.bits BinOp.and IntKind.i64 (bits / 2 ^ k) 1 == 1) = true
        · have YES := hide (lst_yes (β := bitOf bits) (k := k) (by rw [unhide HLL, unhide HL]; omega) hb)
          rw [unhide HLL] at YES
          go_wp2_with (at_builtin; refine wpList_app rfl (.tmp 19) (.tmp 21) rfl w.heap.size _ l rfl ((unhide HO).below ((Below.refl _ _).alloc (Nat.le_refl _) _)) (some ⟨wr.heap.size, 0, none⟩) 1 1 [(k : Int)] rfl rfl (one_int _ _) (by rw [unhide HL]; omega) (by simp; omega) ?_)
          intro v' w' own' g'
          have OWN := hide own'
          have B' := hide (((unhide HO).below ((Below.refl _ _).alloc (Nat.le_refl _) (.cells #[.int .i64 (k : Int)] 3))).grown g' ((unhide BEL).alloc sz _) (by simp; omega))
          clear own' g'
          go_wp2
          go_roundw
          case rel => exact ⟨k + 1, by omega, by go_num, by rw [unhide YES]; exact unhide OWN, unhide B'⟩
          case measure => simp [intOf]; omega
        · have hb : (Go.bits BinOp.and IntKind.i64 (bits / 2 ^ k) 1 == 1) = false := by simpa using hb
          have NO := hide (lst_no (β := bitOf bits) (k := k) hb)
          rw [unhide HLL] at NO
          go_wp2
          go_roundw
          case rel => exact ⟨k + 1, by omega, by go_num, by rw [unhide NO]; exact unhide HO, unhide BEL⟩
          case measure => simp [intOf]; omega
      · have FULL := hide (lst_full (bitOf bits) (k := k) (by rw [unhide HLL, unhide HL]; omega) (9 - k))
        rw [unhide HLL, show k + (9 - k) = 9 by omega] at FULL
        go_wp2
        go_ret
        exact ⟨_, rfl, by rw [unhide FULL]; exact unhide HO, unhide BEL⟩
    · obtain rfl : k = 9 := by omega
      go_wp2
      go_ret
      exact ⟨_, rfl, by rw [unhide HLL]; exact unhide HO, unhide BEL⟩
end Go.Proofs.YtgllokinadjiaaaGreatDoor
namespace Go.Proofs.YtgllokinadjiaaaGreatDoor
open Go.RowKit

theorem cnt_succ {xs : List Int} {k : Nat} (h : k < xs.length) (ys : List Int) : cnt (xs.take (k + 1)) ys = cnt (xs.take k) ys + if ys.contains (xs.getD k 0) = true then 1 else 0 := by
  rw [take_succ xs 0 k h]
  unfold cnt
  rw [List.countP_append, List.countP_cons, List.countP_nil]; simp
theorem cnt_yes {xs ys : List Int} {k C : Nat} (h : k < xs.length) (hC : cnt (xs.take k) ys = C) (hy : ys.contains (xs.getD k 0) = true) : cnt (xs.take (k + 1)) ys = C + 1 := by rw [cnt_succ h, if_pos hy, hC]
theorem cnt_no {xs ys : List Int} {k C : Nat} (h : k < xs.length) (hC : cnt (xs.take k) ys = C) (hy : ys.contains (xs.getD k 0) = false) : cnt (xs.take (k + 1)) ys = C := by rw [cnt_succ h, if_neg (by rw [hy]; exact Bool.false_ne_true), hC]; rfl
theorem lt_le {xs : List Int} (h : xs.Pairwise (· < ·)) : xs.Pairwise (· ≤ ·) := h.imp (by intro a b h; omega)

set_option maxHeartbeats 1000000 in
theorem joint_any (vo vn : Value) (ao : Option Addr) (n c : Nat) (hv : vo = .slice ao n c) (w : World) :
    Calls Tryz.prog 62 #[.agg #[vo, vn]] w fun e w' => e = .returned (.bool (decide (0 < n))) ∧ Below w.heap.size w w' := by
  subst hv
  go_enter Tryz.func62, Tryz.ntmps62
  go_wp2
  go_ret
  exact ⟨rfl, (Below.refl _ w).alloc (Nat.le_refl _) _⟩

/-! ### a configuration in a box -/
theorem two_cells {w : World} {B : Nat} {x y : Value} {t : TypeId} {fr : Nat × Nat} (h : w.heap[B]? = some (.cells #[x, y] t fr)) : w.cell? ⟨B, 0, none⟩ = some x ∧ w.cell? ⟨B, 1, none⟩ = some y := by
  constructor <;> simp [World.cell?, h]
theorem box_kept {w w' : World} {o : Obj} (hb : Below (w.alloc o).heap.size (w.alloc o) w') : w'.heap[w.heap.size]? = some o := by
  rw [hb.block w.heap.size (by simp)]; exact box_at w o
/-- Old is empty just where it has no members. -/
theorem empty_len {xs : List Int} {n : Nat} (h : xs.length = n) : xs.isEmpty = !decide (0 < n) := by
  cases xs with
  | nil => simp at h; subst h; rfl
  | cons x xs => simp at h; subst h; simp

end Go.Proofs.YtgllokinadjiaaaGreatDoor
