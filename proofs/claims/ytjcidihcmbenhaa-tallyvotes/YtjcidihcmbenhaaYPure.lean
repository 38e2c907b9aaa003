/- Marks and votes as plain lists: how far enough have come, who has won. No program is spoken of here. -/
import Derived.Test.YtjcidihcmbenhaaKPure
namespace Go.Proofs.Ytjcidihcmbenhaa

/-- how far one has come: its last mark; 0 if it has none. -/
def lastOf (ms : List (Int × Int)) (id : Int) : Int := ms.foldl (fun a m => if m.1 = id then m.2 else a) 0
theorem lastOf_nil (id : Int) : lastOf [] id = 0 := rfl
theorem lastOf_snoc (ms : List (Int × Int)) (m : Int × Int) (id : Int) : lastOf (ms ++ [m]) id = if m.1 = id then m.2 else lastOf ms id := by
  unfold lastOf; rw [List.foldl_append]; rfl
theorem lastOf_mem_aux (id : Int) : ∀ (ms : List (Int × Int)) (a : Int), ms.foldl (fun a m => if m.1 = id then m.2 else a) a = a ∨ ∃ m ∈ ms, m.2 = ms.foldl (fun a m => if m.1 = id then m.2 else a) a
  | [], a => Or.inl rfl
  | m :: ms, a => by
    rw [List.foldl_cons]
    rcases lastOf_mem_aux id ms (if m.1 = id then m.2 else a) with e | ⟨k, hk, e⟩
    · by_cases h : m.1 = id
      · rw [if_pos h] at e ⊢
        exact Or.inr ⟨m, by simp, e.symm⟩
      · rw [if_neg h] at e ⊢
        exact Or.inl e
    · exact Or.inr ⟨k, List.mem_cons_of_mem _ hk, e⟩
theorem lastOf_mem (ms : List (Int × Int)) (id : Int) (h : lastOf ms id ≠ 0) : ∃ m ∈ ms, m.2 = lastOf ms id := by
  rcases lastOf_mem_aux id ms 0 with e | e
  · exact absurd e h
  · exact e

/-! ### quorums by who says so -/
def halfBy (l : List Int) (p : Int → Bool) : Bool := decide (l.length < 2 * l.countP p)
def quorumBy (old new : List Int) (p : Int → Bool) : Bool := halfBy new p && (old.isEmpty || halfBy old p)
theorem half_by {l ys : List Int} {p : Int → Bool} (h : ∀ z ∈ l, ys.contains z = p z) : half l ys = halfBy l p := by
  unfold half halfBy cnt
  rw [List.countP_congr (fun z hz => by rw [h z hz])]
theorem quorum_by {old new ys : List Int} {p : Int → Bool} (h : ∀ z, z ∈ old ∨ z ∈ new → ys.contains z = p z) : quorumOf old new ys = quorumBy old new p := by
  unfold quorumOf quorumBy
  rw [half_by (fun z hz => h z (Or.inr hz)), half_by (fun z hz => h z (Or.inl hz))]
theorem halfBy_mono {l : List Int} {p q : Int → Bool} (h : ∀ z ∈ l, p z = true → q z = true) (hp : halfBy l p = true) : halfBy l q = true := by
  have := List.countP_mono_left (l := l) (p := p) (q := q) h
  simp only [halfBy, decide_eq_true_eq] at hp ⊢; omega
theorem quorumBy_mono {old new : List Int} {p q : Int → Bool} (h : ∀ z, z ∈ old ∨ z ∈ new → p z = true → q z = true) (hp : quorumBy old new p = true) : quorumBy old new q = true := by
  unfold quorumBy at hp ⊢
  rw [Bool.and_eq_true, Bool.or_eq_true] at hp ⊢
  refine ⟨halfBy_mono (fun z hz => h z (Or.inr hz)) hp.1, ?_⟩
  rcases hp.2 with e | e
  · exact Or.inl e
  · exact Or.inr (halfBy_mono (fun z hz => h z (Or.inl hz)) e)
theorem quorumBy_congr {old new : List Int} {p q : Int → Bool} (h : ∀ z, z ∈ old ∨ z ∈ new → p z = q z) : quorumBy old new p = quorumBy old new q := by
  rw [Bool.eq_iff_iff]
  exact ⟨quorumBy_mono fun z hz e => by rw [← h z hz]; exact e, quorumBy_mono fun z hz e => by rw [h z hz]; exact e⟩
theorem quorumBy_some {old new : List Int} {p : Int → Bool} (h : quorumBy old new p = true) : ∃ z ∈ new, p z = true := by
  unfold quorumBy at h
  rw [Bool.and_eq_true] at h
  have h1 := h.1
  simp only [halfBy, decide_eq_true_eq] at h1
  have : 0 < new.countP p := by
    rcases Nat.eq_zero_or_pos (new.countP p) with e | e
    · rw [e] at h1; omega
    · exact e
  obtain ⟨z, hz, hp⟩ := List.countP_pos_iff.1 this
  exact ⟨z, hz, hp⟩

/-! ### how far enough have come -/
def qAt (old new : List Int) (ms : List (Int × Int)) (x : Int) : Bool := quorumBy old new (fun id => decide (x ≤ lastOf ms id))
theorem qAt_anti {old new : List Int} {ms : List (Int × Int)} {x y : Int} (h : x ≤ y) (hq : qAt old new ms y = true) : qAt old new ms x = true :=
  quorumBy_mono (fun z _ e => by rw [decide_eq_true_eq] at e ⊢; omega) hq
theorem exists_min : ∀ (l : List Int), l ≠ [] → ∃ m ∈ l, ∀ v ∈ l, m ≤ v
  | [], h => absurd rfl h
  | [a], _ => ⟨a, by simp, by simp⟩
  | a :: b :: l, _ => by
    obtain ⟨m, hm, hv⟩ := exists_min (b :: l) (by simp)
    by_cases h : a ≤ m
    · refine ⟨a, by simp, fun v hv' => ?_⟩
      rcases List.mem_cons.1 hv' with e | e
      · omega
      · have := hv v e; omega
    · refine ⟨m, List.mem_cons_of_mem _ hm, fun v hv' => ?_⟩
      rcases List.mem_cons.1 hv' with e | e
      · omega
      · exact hv v e
theorem qAt_hit {old new : List Int} {ms : List (Int × Int)} {x : Int} (hq : qAt old new ms x = true) : ∃ id, (id ∈ old ∨ id ∈ new) ∧ x ≤ lastOf ms id ∧ qAt old new ms (lastOf ms id) = true := by
  obtain ⟨z, hz, hp⟩ := quorumBy_some hq
  rw [decide_eq_true_eq] at hp
  obtain ⟨m, hm, hv⟩ := exists_min (((old ++ new).map (lastOf ms)).filter (fun v => decide (x ≤ v))) (by
    intro e
    have : lastOf ms z ∈ ((old ++ new).map (lastOf ms)).filter (fun v => decide (x ≤ v)) := by
      rw [List.mem_filter]; exact ⟨List.mem_map.2 ⟨z, List.mem_append.2 (Or.inr hz), rfl⟩, by rw [decide_eq_true_eq]; exact hp⟩
    rw [e] at this; cases this)
  rw [List.mem_filter] at hm
  obtain ⟨id, hid, rfl⟩ := List.mem_map.1 hm.1
  refine ⟨id, List.mem_append.1 hid, by simpa using hm.2, ?_⟩
  refine quorumBy_mono (fun y hy e => ?_) hq
  rw [decide_eq_true_eq] at e ⊢
  exact hv _ (List.mem_filter.2 ⟨List.mem_map.2 ⟨y, List.mem_append.2 hy, rfl⟩, by rw [decide_eq_true_eq]; exact e⟩)
/-- r is how far enough have come. -/
def ReachIs (old new : List Int) (ms : List (Int × Int)) (r : Int) : Prop := 0 ≤ r ∧ (0 < r → qAt old new ms r = true) ∧ ∀ x, r < x → qAt old new ms x = false
theorem ReachIs.unique {old new : List Int} {ms : List (Int × Int)} {r s : Int} (h : ReachIs old new ms r) (k : ReachIs old new ms s) : r = s := by
  obtain ⟨h0, h1, h2⟩ := h
  obtain ⟨k0, k1, k2⟩ := k
  rcases Int.lt_trichotomy r s with e | e | e
  · have a := k1 (by omega); rw [h2 s e] at a; cases a
  · exact e
  · have a := h1 (by omega); rw [k2 r e] at a; cases a
/-- searched in the rising list of all marks. -/
theorem reach_of {old new : List Int} {ms : List (Int × Int)} (L : List Int) (hL : L.Pairwise (· ≤ ·)) (hm : ∀ id, id ∈ old ∨ id ∈ new → lastOf ms id ∈ L) (e : Nat) (he : e ≤ L.length)
    (h1 : e ≠ 0 → qAt old new ms (L.getD (e - 1) 0) = true) (h2 : e < L.length → qAt old new ms (L.getD e 0) = false) : ReachIs old new ms (if e = 0 then 0 else max 0 (L.getD (e - 1) 0)) := by
  have hle : ∀ i j (hi : i < L.length) (hj : j < L.length), i ≤ j → L[i] ≤ L[j] := by
    intro i j hi hj hij
    rcases Nat.lt_or_ge i j with hlt | hge
    · exact (List.pairwise_iff_getElem.1 hL) i j hi hj hlt
    · have : i = j := by omega
      subst this; exact Int.le_refl _
  have hg : ∀ i (hi : i < L.length), L.getD i 0 = L[i] := fun i hi => by rw [List.getD_eq_getElem?_getD, List.getElem?_eq_getElem hi]; rfl
  have hlast : ∀ x, (if e = 0 then 0 else max 0 (L.getD (e - 1) 0)) < x → qAt old new ms x = false := by
    intro x hx
    rw [Bool.eq_false_iff]
    intro hq
    obtain ⟨id, hid, hxl, hql⟩ := qAt_hit hq
    obtain ⟨j, hj, ej⟩ := List.mem_iff_getElem.1 (hm id hid)
    by_cases hje : j < e
    · rw [if_neg (by omega), hg (e - 1) (by omega)] at hx
      have := hle j (e - 1) hj (by omega) (by omega)
      omega
    · have a := h2 (by omega)
      rw [hg e (by omega)] at a
      have b := hle e j (by omega) hj (by omega)
      rw [ej] at b
      rw [qAt_anti b hql] at a; cases a
  refine ⟨?_, ?_, hlast⟩
  · split <;> omega
  · intro h0
    by_cases hz : e = 0
    · rw [if_pos hz] at h0; omega
    · rw [if_neg hz] at h0 ⊢
      have : max 0 (L.getD (e - 1) 0) = L.getD (e - 1) 0 := by omega
      rw [this]; exact h1 hz
/-- asked of each mark. -/
theorem reach_ask {old new : List Int} {ms : List (Int × Int)} {b : Int} (h0 : 0 ≤ b) (h1 : 0 < b → qAt old new ms b = true) (h2 : ∀ m ∈ ms, b < m.2 → qAt old new ms m.2 = false) : ReachIs old new ms b := by
  refine ⟨h0, h1, fun x hx => ?_⟩
  rw [Bool.eq_false_iff]
  intro hq
  obtain ⟨id, _, hxl, hql⟩ := qAt_hit hq
  obtain ⟨m, hm, e⟩ := lastOf_mem ms id (by omega)
  have := h2 m hm (by omega)
  rw [e, hql] at this; cases this
theorem ReachIs.more {old new : List Int} {ms : List (Int × Int)} {id x r s : Int} (hx : lastOf ms id ≤ x) (h : ReachIs old new ms r) (k : ReachIs old new (ms ++ [(id, x)]) s) : r ≤ s := by
  by_cases e : r ≤ s
  · exact e
  · have a := h.2.1 (by have := k.1; omega)
    have b := k.2.2 r (by omega)
    have : qAt old new (ms ++ [(id, x)]) r = true := by
      refine quorumBy_mono (fun z _ e => ?_) a
      rw [decide_eq_true_eq] at e ⊢
      rw [lastOf_snoc]
      split
      · rename_i hz
        have hz' : id = z := hz
        rw [← hz'] at e
        show r ≤ x; omega
      · exact e
    rw [this] at b; cases b
end Go.Proofs.Ytjcidihcmbenhaa
