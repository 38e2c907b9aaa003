/- Cells on a tape whose power may go: Put, Stop, Crash, Open. -/
import Derived.Test.YtnagfoclbdlenaaGreatDoorCHold
namespace Go.Proofs.YtnagfoclbdlenaaGreatDoor
open Go.RowKit Go.Maps

/-- cells that may be put, each once. -/
def Fine (l : List (Int × List Nat)) : Prop := (l.map (·.1)).Nodup ∧ ∀ c ∈ l, (0 ≤ c.1 ∧ c.1 < 8) ∧ c.2.length ≤ 500
theorem Fine.add {out : List (Int × List Nat)} (h : Fine out) (c : Int × List Nat) : Fine (addG out c) := by
  unfold addG
  split
  · rename_i hh
    refine ⟨?_, fun d hd => ?_⟩
    · rw [List.map_append, List.nodup_append]
      refine ⟨h.1, by simp, fun a ha b hb => ?_⟩
      simp at hb
      rintro rfl
      have := hh.1
      unfold hasK at this
      rw [hb] at ha
      have ht := List.contains_iff_mem.2 ha
      rw [ht] at this
      cases this
    · rcases List.mem_append.1 hd with hd | hd
      · exact h.2 d hd
      · simp at hd
        subst hd
        exact ⟨⟨Int.emod_nonneg _ (by decide), Int.emod_lt_of_pos _ (by decide)⟩, hh.2⟩
  · exact h
theorem fine_fold (l : List (Int × List Nat)) : ∀ out, Fine out → Fine (l.foldl addG out) := by
  induction l with
  | nil => exact fun out h => h
  | cons c l ih => exact fun out h => ih _ (h.add c)
theorem fine_good (l : List (Int × List Nat)) : Fine (goodOf l) := fine_fold l [] ⟨by simp, by simp⟩
theorem Fine.refuse : ∀ (l : List (Int × List Nat)) (s : Int → Bool), Fine l → (∀ c ∈ l, s c.1 = false) → refuseOf s l = 0 := by
  intro l
  induction l with
  | nil => intro s _ _; rfl
  | cons c l ih =>
    intro s h hs
    have hc := h.2 c (by simp)
    have h1 : oneOf s c.1 c.2.length = 0 := by
      unfold oneOf
      rw [if_neg (fun x => x hc.1), if_neg (by rw [hs c (by simp)]; simp), if_neg (by omega)]
    have hn := List.nodup_cons.1 (show (c.1 :: l.map (·.1)).Nodup from h.1)
    show (if oneOf s c.1 c.2.length = 0 then _ else _) = 0
    rw [if_pos h1]
    refine ih _ ⟨hn.2, fun d hd => h.2 d (by simp [hd])⟩ fun d hd => ?_
    have hne : d.1 ≠ c.1 := fun e => hn.1 (by rw [← e]; exact List.mem_map.2 ⟨d, hd, rfl⟩)
    simp [seeing, hs d (by simp [hd]), hne]
theorem Fine.keys {l : List (Int × List Nat)} (h : Fine l) : Keys l := fun c hc => (h.2 c hc).1
theorem set_withins : ∀ (l : List (Int × List Nat)) {f : Int → List Nat}, Within f → Keys l → Within (setF f l) := by
  intro l
  induction l with
  | nil => exact fun h _ => h
  | cons c l ih => exact fun h hk => ih (f := upF _ c.1 c.2) (set_within h (hk c (by simp)) c.2) fun d hd => hk d (by simp [hd])

/-- what the power says to one more turn of the tape. -/
def turn (left : Int) (dead : Bool) : Nat × Int × Bool := if dead = true then (13, left, true) else if left = 1 then (13, 0, true) else if 1 < left then (0, left - 1, false) else (0, left, false)
/-- cells, their log, their tape, whatever the power does. -/
def Live (base : Nat) (w0 w : World) (cp l p : Nat) (g a : Addr) (f : Int → List Nat) (k : Nat) (left : Int) (dead : Bool) : Prop :=
  ∃ b c q n ops, Cs base w cp l b f c ∧ Lg base w l p q ⟨400000, cats (rows f), n, ops, left, dead⟩ n ∧ takes (rows f) = n ∧ Within f ∧ (∀ x, (f x).length ≤ 12000) ∧ c ≤ 8 + k ∧ ops ≤ k ∧ Start w g a ∧ Below base w0 w ∧ base ≤ w.heap.size
theorem Good.live {base : Nat} {w0 w : World} {cp l p : Nat} {g a : Addr} {f : Int → List Nat} {k : Nat} (h : Good base w0 w cp l p g a f k) : Live base w0 w cp l p g a f k 0 false := h
theorem Live.good {base : Nat} {w0 w : World} {cp l p : Nat} {g a : Addr} {f : Int → List Nat} {k : Nat} (h : Live base w0 w cp l p g a f k 0 false) : Good base w0 w cp l p g a f k := h
theorem Live.below {base : Nat} {w0 w w' : World} {cp l p : Nat} {g a : Addr} {f : Int → List Nat} {k : Nat} {left : Int} {dead : Bool} (h : Live base w0 w cp l p g a f k left dead) (hb : Below w.heap.size w w') : Live base w0 w' cp l p g a f k left dead := by
  obtain ⟨b, c, q, n, ops, h1, h2, h3, h4, h5, h6, h7, h8, h9, h10⟩ := h
  exact ⟨b, c, q, n, ops, h1.below hb, h2.below hb, h3, h4, h5, h6, h7, h8.below hb, h9.trans (hb.mono h10), Nat.le_trans h10 hb.size⟩
theorem turn_rep (B C : List Nat) (n ops : Nat) (left : Int) (dead : Bool) (hC : C.length ≤ 400000) : (⟨400000, B, n, ops, left, dead⟩ : St).replace C = ((turn left dead).1, ⟨400000, if (turn left dead).1 = 0 then C else B, if (turn left dead).1 = 0 then C.length else n, if (turn left dead).1 = 0 then ops + 1 else ops, (turn left dead).2.1, (turn left dead).2.2⟩) := by
  unfold St.replace St.begin turn numOf
  cases dead with
  | true => simp
  | false =>
    have hc : ¬ 400000 < C.length := by omega
    by_cases h1 : left = 1
    · simp [h1, hc]
    · by_cases h2 : 1 < left
      · simp [h1, h2, hc]
      · simp [h1, h2, hc]
/-- Put, whatever the power does. -/
theorem lput {base : Nat} {w0 : World} {cp l p : Nat} {g a : Addr} {f : Int → List Nat} {k : Nat} {left : Int} {dead : Bool} (lst : List (Int × List Nat)) (hf : Fine lst) (m : Nat) (hm : lst.length = m) (hm0 : 0 < m) (hm8 : m ≤ 1000) (ao : Option Addr) (cap : Nat) (hk : k ≤ 1000) (hl : left ≤ 1000) (hz : 4 ≤ base) (w : World) (h : Live base w0 w cp l p g a f k left dead) (hat : CAt w ao lst) :
    Calls Tryz.prog 14 #[.pointer (some ⟨cp, 0, none⟩), .slice ao m cap] w fun e w' => e = .returned (.int .i64 ((turn left dead).1 : Int)) ∧ Live base w0 w' cp l p g a (if (turn left dead).1 = 0 then setF f lst else f) (k + m) (turn left dead).2.1 (turn left dead).2.2 ∧ Kept base (fun j => (j = l ∨ j = p) ∨ j = cp) w w' := by
  obtain ⟨b, c, q, n, ops, h1, h2, h3, h4, h5, h6, h7, h8, h9, h10⟩ := h
  have hFl : ∀ x, (setF f lst x).length ≤ 12000 := setF_len h5 (fun c hc => Nat.le_trans (hf.2 c hc).2 (by decide))
  have hcl : (cats (rows (setF f lst))).length ≤ 400000 := by rw [cats_len]; exact Nat.le_trans (takes_rows hFl) (by decide)
  have hrep := turn_rep (cats (rows f)) (cats (rows (setF f lst))) n ops left dead hcl
  have hp := put_ok g a ao m cap lst hm hm8 w h1 (by omega) h2 h8 h10 (by show ops ≤ _; omega) (by show left ≤ _; omega) hat (fun c hc => wf_small64 (by have := (hf.2 c hc).1; omega)) h5 (Fine.refuse lst _ hf (fun _ _ => rfl)) _ _ hrep _ rfl
  refine (Put_of cp ao m cap hm0 w _ _ hp).mono ?_
  rintro e w' ⟨rfl, q', b', c', l', k', -⟩
  refine ⟨rfl, ?_, k'⟩
  have st := h8.keptd k' hz
  have bb := h9.trans k'.1
  have sz := Nat.le_trans h10 k'.1.size
  by_cases e0 : (turn left dead).1 = 0
  · rw [if_pos e0] at c' ⊢
    simp only [if_pos e0] at l'
    rw [cats_len] at l'
    exact ⟨b', _, q', _, ops + 1, c', l', rfl, set_withins lst h4 hf.keys, hFl, by omega, by omega, st, bb, sz⟩
  · rw [if_neg e0] at c' ⊢
    simp only [if_neg e0] at l'
    exact ⟨b', _, q', n, ops, c', l', h3, h4, h5, by omega, by omega, st, bb, sz⟩
/-- Put, the power being there. -/
theorem gputs {base : Nat} {w0 : World} {cp l p : Nat} {g a : Addr} {f : Int → List Nat} {k : Nat} (lst : List (Int × List Nat)) (hf : Fine lst) (m : Nat) (hm : lst.length = m) (hm8 : m ≤ 1000) (ao : Option Addr) (cap : Nat) (hk : k ≤ 1000) (hz : 4 ≤ base) (w : World) (h : Good base w0 w cp l p g a f k) (hat : CAt w ao lst) :
    Calls Tryz.prog 14 #[.pointer (some ⟨cp, 0, none⟩), .slice ao m cap] w fun e w' => e = .returned (.int .i64 0) ∧ Good base w0 w' cp l p g a (setF f lst) (k + m) ∧ Kept base (fun j => (j = l ∨ j = p) ∨ j = cp) w w' := by
  by_cases h0 : 0 < m
  · exact lput lst hf m hm h0 hm8 ao cap hk (by decide) hz w h.live hat
  · obtain rfl : m = 0 := by omega
    obtain rfl : lst = [] := List.eq_nil_of_length_eq_zero hm
    refine (Put_none cp ao cap w).mono ?_
    rintro e w' ⟨rfl, rfl⟩
    exact ⟨rfl, h, Kept.refl _ _ _⟩
/-- Stop. -/
theorem lstop {base : Nat} {w0 : World} {cp l p : Nat} {g a : Addr} {f : Int → List Nat} {k : Nat} {left : Int} {dead : Bool} (x : Int) (hz : 4 ≤ base) (w : World) (h : Live base w0 w cp l p g a f k left dead) :
    Calls Tryz.prog 19 #[.pointer (some ⟨p, 0, none⟩), .int .i64 x] w fun e w' => e = .returned (.tuple #[]) ∧ Live base w0 w' cp l p g a f k x dead ∧ Kept base (fun j => j = p) w w' := by
  obtain ⟨b, c, q, n, ops, h1, h2, h3, h4, h5, h6, h7, h8, h9, h10⟩ := h
  refine (stop_any base p q _ x w h2.tape).mono ?_
  rintro e w' ⟨rfl, t', k'⟩
  have hlp : l ≠ p := fun e => h2.ne (Or.inl e)
  have hcp : cp ≠ p := fun e => h2.far h1.2.1 (Or.inr (Or.inl e))
  refine ⟨rfl, ⟨b, c, q, n, ops, ⟨h1.1, (k'.2 cp (blk_lt' h1.2.1) hcp).trans h1.2.1, h1.2.2.kept k' fun j hj => h2.tags j (Or.inr hj)⟩, ⟨h2.1, (k'.2 l (blk_lt' h2.2.1) hlp).trans h2.2.1, t'⟩, h3, h4, h5, h6, h7, h8.keptd k' hz, h9.trans k'.1, Nat.le_trans h10 k'.1.size⟩, k'⟩
/-- a tape that holds cells. -/
def Rest (base : Nat) (w0 w : World) (p : Nat) (g a : Addr) (f : Int → List Nat) (k : Nat) (left : Int) (dead : Bool) : Prop :=
  ∃ q n ops, Tp base w p q ⟨400000, cats (rows f), n, ops, left, dead⟩ ∧ takes (rows f) = n ∧ Within f ∧ (∀ x, (f x).length ≤ 12000) ∧ Fit (rows f) ∧ ops ≤ k ∧ Start w g a ∧ Below base w0 w ∧ base ≤ w.heap.size
theorem Live.rest {base : Nat} {w0 w : World} {cp l p : Nat} {g a : Addr} {f : Int → List Nat} {k : Nat} {left : Int} {dead : Bool} (h : Live base w0 w cp l p g a f k left dead) : Rest base w0 w p g a f k left dead := by
  obtain ⟨b, c, q, n, ops, h1, h2, h3, h4, h5, h6, h7, h8, h9, h10⟩ := h
  exact ⟨q, n, ops, h2.tape, h3, h4, h5, fit_rows (fun x => h1.2.2.bytes x) h5, h7, h8, h9, h10⟩
theorem rcrash {base : Nat} {w0 : World} {p : Nat} {g a : Addr} {f : Int → List Nat} {k : Nat} {left : Int} {dead : Bool} (x : Int) (hz : 4 ≤ base) (w : World) (h : Rest base w0 w p g a f k left dead) :
    Calls Tryz.prog 21 #[.pointer (some ⟨p, 0, none⟩), .int .i64 x] w fun e w' => e = .returned (.int .i64 0) ∧ Rest base w0 w' p g a f k 0 false ∧ Kept base (fun j => j = p) w w' := by
  obtain ⟨q, n, ops, h1, h3, h4, h5, h6, h7, h8, h9, h10⟩ := h
  refine (crash_any base p q _ x w h1).mono ?_
  rintro e w' ⟨rfl, t', k'⟩
  have e1 : (⟨400000, cats (rows f), n, ops, left, dead⟩ : St).kept x = 0 := by rw [← h3]; exact (crash_whole 400000 (rows f) ops x).2
  have e2 : (⟨400000, cats (rows f), n, ops, left, dead⟩ : St).crash x = Ls 400000 (rows f) n ops := by rw [← h3]; exact (crash_whole 400000 (rows f) ops x).1
  rw [e2] at t'
  exact ⟨by rw [e1]; rfl, ⟨q, n, ops, t', h3, h4, h5, h6, h7, h8.keptd k' hz, h9.trans k'.1, Nat.le_trans h10 k'.1.size⟩, k'⟩
theorem ropen {base : Nat} {w0 : World} {p : Nat} {g a : Addr} {f : Int → List Nat} {k : Nat} (w : World) (h : Rest base w0 w p g a f k 0 false) :
    Calls Tryz.prog 11 #[.pointer (some ⟨p, 0, none⟩)] w fun e w' => ∃ cp l, e = .returned (.tuple #[.pointer (some ⟨cp, 0, none⟩), .int .i64 0]) ∧ Good base w0 w' cp l p g a f k ∧ Below w.heap.size w w' := by
  obtain ⟨q, n, ops, h1, h3, h4, h5, h6, h7, h8, h9, h10⟩ := h
  refine (copen base p q 400000 n ops n f g a w h1 h8 h10 h6 h3 (by decide) h4 (fun x => Nat.le_trans (h5 x) (by decide))).mono ?_
  rintro e w' ⟨cp', l', b', rfl, -, -, -, c', l'', bb⟩
  exact ⟨cp', l', rfl, ⟨b', 8, q, n, ops, c', l'', h3, h4, h5, by omega, h7, h8.below bb, h9.trans (bb.mono h10), Nat.le_trans h10 bb.size⟩, bb⟩
end Go.Proofs.YtnagfoclbdlenaaGreatDoor
