/- A log where nothing goes wrong: its calls. -/
import Derived.Test.YtnagfoclbdlenaaGreatDoorWSmall2
namespace Go.Proofs.YtnagfoclbdlenaaGreatDoor
open Go.RowKit

/-- a tape that holds whole records, and whose power is there and will not go. -/
def Ls (room : Nat) (xs : List (List Nat)) (syn ops : Nat) : St := ⟨room, cats xs, syn, ops, 0, false⟩

theorem ls_append {room : Nat} {xs : List (List Nat)} {syn ops : Nat} {x : List Nat} (h : takes xs + (8 + x.length) ≤ room) : (Ls room xs syn ops).append (frame x) = (0, Ls room (xs ++ [x]) syn (ops + 1)) := by
  rw [append_ok _ _ rfl (by simp only [Ls, cats_len, frame_length]; exact h) (by simp [Ls])]
  simp only [Ls, cats_snoc]
theorem ls_sync {room : Nat} {xs : List (List Nat)} {syn ops : Nat} (h : takes xs ≤ room) : (Ls room xs syn ops).sync = (0, Ls room xs (takes xs) (ops + 1)) := by
  rw [sync_ok _ rfl (by simp only [Ls, cats_len]; exact h) (by simp [Ls])]
  simp only [Ls, cats_len]
theorem ls_replace {room : Nat} {xs ys : List (List Nat)} {syn ops : Nat} (h : takes ys ≤ room) : (Ls room xs syn ops).replace (cats ys) = (0, Ls room ys (takes ys) (ops + 1)) := by
  rw [replace_ok _ _ rfl (by simp only [Ls, cats_len]; exact h) (by simp [Ls])]
  simp only [Ls, cats_len]
theorem Lg.fits {base : Nat} {w : World} {l p : Nat} {q : Option Nat} {room syn ops n : Nat} {xs : List (List Nat)} (h : Lg base w l p q (Ls room xs syn ops) n) : syn ≤ takes xs ∧ takes xs ≤ room := by
  have := h.tape.fits
  simpa only [Ls, cats_len] using this

theorem nkeep (base l p : Nat) (q : Option Nat) (room syn ops n n' : Nat) (xs ys : List (List Nat)) (g a : Addr) (ao : Option Addr) (m cap : Nat) (hm : ys.length = m) (w : World) (h : Lg base w l p q (Ls room xs syn ops) n) (hS : Start w g a) (hb : base ≤ w.heap.size) (ho : ops ≤ 1000000)
    (hrow : RowsArg w ao ys) (hfit : Fit ys) (hbl : m ≤ 1000) (hn' : takes ys = n') (hr : n' ≤ room) :
    Calls Tryz.prog 42 #[.pointer (some ⟨l, 0, none⟩), .slice ao m cap] w fun e w' => ∃ q', e = .returned (.int .i64 0) ∧ Lg base w' l p q' (Ls room ys n' (ops + 1)) n' ∧ Kept base (lfoot l p q) w w' ∧ Fresh w q q' := by
  subst hn'
  exact wkeep_any base l p q _ n g a ao m cap ys hm w h hS hb (by simp only [Ls]; omega) (by simp [Ls]) hrow hfit hbl 0 _ (ls_replace hr) _ (by rw [if_pos rfl])
theorem nall (base l p : Nat) (q : Option Nat) (room syn ops n : Nat) (xs : List (List Nat)) (g a : Addr) (w : World) (h : Lg base w l p q (Ls room xs syn ops) n) (hS : Start w g a) (hx : Fit xs) (hn : takes xs = n) (hroom : room ≤ 1000000000) (k : Nat) (hk : xs.length = k) :
    Calls Tryz.prog 27 #[.pointer (some ⟨l, 0, none⟩)] w fun e w' => ∃ ao cap, e = .returned (.slice ao k cap) ∧ RowsArg w' ao xs ∧ (ao = none → cap = 0) ∧ Below w.heap.size w w' := by
  refine (wall_any base l p q _ n g a w h hS xs hx [] (by simp [Ls]) hn hroom).mono ?_
  rintro e w' ⟨fv, vs, rfl, ho, hr, hb⟩
  rw [hr.1] at ho
  obtain ⟨ao, cap, rfl, _, _, hc, hra⟩ := rows_arg ho rfl hr.vals
  exact ⟨ao, cap, by rw [hk], hra, hc, hb⟩
theorem nopen (base p : Nat) (q : Option Nat) (room syn ops n : Nat) (xs : List (List Nat)) (g a : Addr) (w : World) (h : Tp base w p q (Ls room xs syn ops)) (hS : Start w g a) (hb : base ≤ w.heap.size) (hx : Fit xs) (hn : takes xs = n) (hroom : room ≤ 1000000000) :
    Calls Tryz.prog 24 #[.pointer (some ⟨p, 0, none⟩)] w fun e w' => ∃ l, e = .returned (.tuple #[.pointer (some ⟨l, 0, none⟩), .int .i64 0]) ∧ w.heap.size ≤ l ∧ Lg base w' l p q (Ls room xs syn ops) n ∧ Below w.heap.size w w' :=
  open_whole base p q _ g a w h hS hb rfl xs hx rfl n hn hroom
/-- Open of whole records and a part of one. -/
theorem npart (base p : Nat) (q : Option Nat) (room syn ops n : Nat) (xs : List (List Nat)) (r : List Nat) (g a : Addr) (w : World) (h : Tp base w p q ⟨room, cats xs ++ r, syn, ops, 0, false⟩) (hS : Start w g a) (hb : base ≤ w.heap.size) (hx : Fit xs) (hr : frameOf r = (0, none)) (hn : takes xs = n) (hroom : room ≤ 1000000000) (ho : ops ≤ 1000000) :
    Calls Tryz.prog 24 #[.pointer (some ⟨p, 0, none⟩)] w fun e w' => ∃ q' l syn' ops', ops' ≤ ops + 1 ∧ e = .returned (.tuple #[.pointer (some ⟨l, 0, none⟩), .int .i64 0]) ∧ w.heap.size ≤ l ∧ Lg base w' l p q' (Ls room xs syn' ops') n ∧ Kept base (fun k => k = p) w w' ∧ Fresh w q q' := by
  by_cases h0 : r = []
  · subst h0
    rw [List.append_nil] at h
    refine (nopen base p q room syn ops n xs g a w h hS hb hx hn hroom).mono ?_
    rintro e w' ⟨l, rfl, h1, h2, h3⟩
    exact ⟨q, l, syn, ops, by omega, rfl, h1, h2, Kept.of_below h3 hb, Fresh.refl _ _⟩
  · have hf := h.fits.2
    simp only [List.length_append, cats_len] at hf
    have hrep : (⟨room, cats xs ++ r, syn, ops, 0, false⟩ : St).replace (cats xs) = (0, Ls room xs (takes xs) (ops + 1)) := by
      rw [replace_ok _ _ rfl (by simp only [cats_len]; omega) (by simp)]
      simp only [Ls, cats_len]
    refine (open_part base p q _ g a w h hS hb (by simp only; omega) (by simp) rfl xs hx r hr h0 rfl n hn hroom 0 _ hrep).mono ?_
    rintro e w' ⟨q', lv, rfl, hans, _, h3, h4⟩
    rcases hans with ⟨_, l, rfl, h5, h6⟩ | ⟨h5, _⟩
    · exact ⟨q', l, _, ops + 1, Nat.le_refl _, rfl, h5, h6, h3, h4⟩
    · exact absurd rfl h5
theorem crash_none (room : Nat) (xs ys : List (List Nat)) (ops : Nat) : (⟨room, cats (xs ++ ys), takes xs, ops, 0, false⟩ : St).crash 0 = Ls room xs (takes xs) ops ∧ (⟨room, cats (xs ++ ys), takes xs, ops, 0, false⟩ : St).kept 0 = 0 := by
  have e : (⟨room, cats (xs ++ ys), takes xs, ops, 0, false⟩ : St).kept 0 = 0 := by simp [St.kept]
  refine ⟨?_, e⟩
  unfold St.crash
  rw [e]
  simp only [Nat.add_zero, Ls, cats_append]
  rw [List.take_append_of_le_length (by rw [cats_len]; omega), List.take_of_length_le (by rw [cats_len]; omega)]
theorem Start.keptd {base : Nat} {f : Nat → Prop} {w w' : World} {g a : Addr} (h : Start w g a) (hk : Kept base f w w') (hz : 4 ≤ base) : Start w' g a := h.upto hk.1 hz

/-- a row of rows stays, whatever a log does. -/
theorem Lg.rows {base b b' : Nat} {w w' : World} {l p : Nat} {q : Option Nat} {s : St} {n : Nat} {v : Value} {m : Nat} {vs : List Value} (h : Lg base w l p q s n) (ho : w.ownsRow b 38 1 v m vs) (hk : Kept b' (lfoot l p q) w w') : w'.ownsRow b 38 1 v m vs := by
  refine hk.own ho fun k e hf => ?_
  obtain ⟨_, cur, fr, hc⟩ := own_tag ho k e
  obtain ⟨_, h2, u, hu, _, hp, hown, _⟩ := h
  rcases hf with rfl | rfl | hf
  · rw [h2] at hc; cases hc
  · rw [hp] at hc; cases hc
  · exact hown.ne hc (by decide) k (hu.trans hf) rfl
theorem Tp.rows {base b b' : Nat} {w w' : World} {p : Nat} {q : Option Nat} {s : St} {v : Value} {m : Nat} {vs : List Value} (h : Tp base w p q s) (ho : w.ownsRow b 38 1 v m vs) (hk : Kept b' (fun k => k = p) w w') : w'.ownsRow b 38 1 v m vs := by
  refine hk.own ho fun k e hf => ?_
  obtain ⟨_, cur, fr, hc⟩ := own_tag ho k e
  obtain ⟨u, hu, _, hp, hown, _⟩ := h
  subst hf
  rw [hp] at hc; cases hc
/-- a log stays where a row of rows grows. -/
theorem Lg.grown {base b b' : Nat} {w w' : World} {l p : Nat} {q : Option Nat} {s : St} {n : Nat} {v : Value} {m : Nat} {vs : List Value} (h : Lg base w l p q s n) (ho : w.ownsRow b 38 1 v m vs) (hk : Kept b' (fun k => v.ownBlock = some k) w w') : Lg base w' l p q s n := by
  refine h.kept hk fun k hf e => ?_
  obtain ⟨_, cur, fr, hc⟩ := own_tag ho k e
  obtain ⟨_, h2, u, hu, _, hp, hown, _⟩ := h
  rcases hf with rfl | rfl | hf
  · rw [h2] at hc; cases hc
  · rw [hp] at hc; cases hc
  · exact hown.ne hc (by decide) k (hu.trans hf) rfl

end Go.Proofs.YtnagfoclbdlenaaGreatDoor
