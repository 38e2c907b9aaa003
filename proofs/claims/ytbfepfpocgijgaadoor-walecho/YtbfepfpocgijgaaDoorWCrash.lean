/- A tape whose power may go, under a log: what its calls leave; Open of a front of records; pick: contracts. -/
import Derived.Test.YtbfepfpocgijgaaDoorWCalls
import Derived.Test.YtbfepfpocgijgaaDoorWLaws
namespace Go.Proofs.YtbfepfpocgijgaaDoor
open Go.RowKit

/-- an operation of a tape whose power is there, and that has room. -/
theorem begin_cases (s : St) (n : Nat) (hd : s.dead = false) (hr : n ≤ s.room) : ∃ c s1, s.begin n = (c, s1) ∧ s1.bs = s.bs ∧ s1.syn = s.syn ∧ s1.room = s.room ∧ s1.ops ≤ s.ops + 1 ∧ (s1.left ≤ s.left ∨ s1.left ≤ 0) ∧ ((c = 0 ∧ s1.dead = false) ∨ (c = 1 ∧ s1.dead = true)) := by
  unfold St.begin
  rw [if_neg (by simp [hd]), if_neg (by omega)]
  by_cases h1 : s.left = 1
  · rw [if_pos h1]; exact ⟨_, _, rfl, rfl, rfl, rfl, by simp, Or.inr (by simp), Or.inr ⟨rfl, rfl⟩⟩
  · rw [if_neg h1]
    by_cases h2 : 1 < s.left
    · rw [if_pos h2]; exact ⟨_, _, rfl, rfl, rfl, rfl, by simp, Or.inl (by simp only; omega), Or.inl ⟨rfl, hd⟩⟩
    · rw [if_neg h2]; exact ⟨_, _, rfl, rfl, rfl, rfl, by simp, Or.inl (by simp), Or.inl ⟨rfl, hd⟩⟩
theorem append_cases (s : St) (b : List Nat) (hd : s.dead = false) (hr : s.bs.length + b.length ≤ s.room) : ∃ c s1, s.append b = (c, s1) ∧ s1.bs = s.bs ++ b ∧ s1.syn = s.syn ∧ s1.room = s.room ∧ s1.ops ≤ s.ops + 1 ∧ (s1.left ≤ s.left ∨ s1.left ≤ 0) ∧ ((c = 0 ∧ s1.dead = false) ∨ (c = 13 ∧ s1.dead = true)) := by
  obtain ⟨c, s1, e, h1, h2, h3, h4, h5, h6⟩ := begin_cases s _ hd hr
  unfold St.append
  rw [e]
  rcases h6 with ⟨rfl, h6⟩ | ⟨rfl, h6⟩
  · exact ⟨_, _, rfl, by simp, by simpa using h2, by simpa using h3, by simpa using h4, by simpa using h5, Or.inl ⟨rfl, by simpa using h6⟩⟩
  · exact ⟨_, _, rfl, by simp, by simpa using h2, by simpa using h3, by simpa using h4, by simpa using h5, Or.inr ⟨rfl, by simpa using h6⟩⟩
theorem sync_cases (s : St) (hd : s.dead = false) (hr : s.bs.length ≤ s.room) : ∃ c s1, s.sync = (c, s1) ∧ s1.bs = s.bs ∧ s1.room = s.room ∧ s1.ops ≤ s.ops + 1 ∧ (s1.left ≤ s.left ∨ s1.left ≤ 0) ∧ ((c = 0 ∧ s1.dead = false ∧ s1.syn = s.bs.length) ∨ (c = 13 ∧ s1.dead = true ∧ s1.syn = s.syn)) := by
  obtain ⟨c, s1, e, h1, h2, h3, h4, h5, h6⟩ := begin_cases s _ hd hr
  unfold St.sync
  rw [e]
  rcases h6 with ⟨rfl, h6⟩ | ⟨rfl, h6⟩
  · exact ⟨_, _, rfl, by simpa using h1, by simpa using h3, by simpa using h4, by simpa using h5, Or.inl ⟨rfl, by simpa using h6, by simp⟩⟩
  · exact ⟨_, _, rfl, by simpa using h1, by simpa using h3, by simpa using h4, by simpa using h5, Or.inr ⟨rfl, by simpa using h6, by simpa using h2⟩⟩
theorem replace_cases (s : St) (b : List Nat) (hd : s.dead = false) (hr : b.length ≤ s.room) : ∃ c s1, s.replace b = (c, s1) ∧ s1.room = s.room ∧ s1.ops ≤ s.ops + 1 ∧ (s1.left ≤ s.left ∨ s1.left ≤ 0) ∧ ((c = 0 ∧ s1.dead = false ∧ s1.bs = b ∧ s1.syn = b.length) ∨ (c = 13 ∧ s1.dead = true ∧ s1.bs = s.bs ∧ s1.syn = s.syn)) := by
  obtain ⟨c, s1, e, h1, h2, h3, h4, h5, h6⟩ := begin_cases s _ hd hr
  unfold St.replace
  rw [e]
  rcases h6 with ⟨rfl, h6⟩ | ⟨rfl, h6⟩
  · exact ⟨_, _, rfl, by simpa using h3, by simpa using h4, by simpa using h5, Or.inl ⟨rfl, by simpa using h6, by simp, by simp⟩⟩
  · exact ⟨_, _, rfl, by simpa using h3, by simpa using h4, by simpa using h5, Or.inr ⟨rfl, by simpa using h6, by simpa using h1, by simpa using h2⟩⟩

/-- a tape that holds a front of records, those that were done at least. -/
structure Fr (s : St) (xs : List (List Nat)) (d : Nat) (b : Nat) : Prop where
  room : s.room = 1048576
  front : ∃ c, c ≤ takes xs ∧ s.bs = (cats xs).take c
  syn : takes (xs.take d) ≤ s.syn
  low : s.syn ≤ s.bs.length
  ops : s.ops ≤ b
  left : s.left ≤ 100
theorem Fr.crash {s : St} {xs : List (List Nat)} {d b : Nat} (h : Fr s xs d b) (pick : Int) : Fr (s.crash pick) xs d b ∧ (s.crash pick).dead = false ∧ (s.crash pick).left = 0 := by
  obtain ⟨c, hc, e⟩ := h.front
  have hk := (kept_spec s pick h.low).2
  have hl : s.bs.length = c := by rw [e, List.length_take, cats_len]; omega
  have hs := h.syn
  refine ⟨⟨h.room, ⟨s.syn + s.kept pick, by omega, ?_⟩, by simp only [St.crash]; omega, by simp only [St.crash, List.length_take]; omega, h.ops, by simp [St.crash]⟩, rfl, rfl⟩
  simp only [St.crash]
  rw [e, List.take_take, Nat.min_eq_left (by omega)]
theorem Fr.stop {s : St} {xs : List (List Nat)} {d b : Nat} (h : Fr s xs d b) (n : Int) (hn : n ≤ 100) : Fr { s with left := n } xs d b := ⟨h.room, h.front, h.syn, h.low, h.ops, hn⟩
theorem takes_mono (xs : List (List Nat)) {i j : Nat} (h : i ≤ j) : takes (xs.take i) ≤ takes (xs.take j) := by
  have e : xs.take i = (xs.take j).take i := by rw [List.take_take, Nat.min_eq_left h]
  rw [e]; exact takes_front _ _
/-- what a front of records holds whole: all that was done. -/
theorem Fr.parts {s : St} {xs : List (List Nat)} {d b : Nat} (h : Fr s xs d b) (hf : Fit xs) (hd : d ≤ xs.length) : ∃ k r, d ≤ k ∧ k ≤ xs.length ∧ s.bs = cats (xs.take k) ++ r ∧ frameOf r = (0, none) := by
  obtain ⟨c, hc, e⟩ := h.front
  obtain ⟨k, r, h1, h2, h3, h4, h5, _⟩ := front_cats hf c hc
  refine ⟨k, r, ?_, h1, by rw [e, h2], h3⟩
  have hs := h.syn
  have hl := h.low
  have hlen : s.bs.length = c := by rw [e, List.length_take, cats_len]; omega
  by_cases hkd : d ≤ k
  · exact hkd
  · have := h5 (by omega)
    have := takes_mono xs (show k + 1 ≤ d by omega)
    omega
theorem cats_take (xs : List (List Nat)) (k : Nat) : cats (xs.take k) = (cats xs).take (takes (xs.take k)) := by
  have e : cats xs = cats (xs.take k) ++ cats (xs.drop k) := by rw [← cats_append, List.take_append_drop]
  conv => rhs; rw [e, List.take_append_of_le_length (by rw [cats_len]; omega)]
  exact (List.take_of_length_le (by rw [cats_len]; omega)).symm

/-- Open of a front of records, wherever the power goes. -/
theorem open_front (p : Nat) (q : Option Nat) (s : St) (xs : List (List Nat)) (d b : Nat) (g a : Addr) (w : World) (h : Tp p w p q s) (hS : Start w g a) (hb : p ≤ w.heap.size) (hfr : Fr s xs d b) (hd : s.dead = false) (hx : Fit xs) (hdx : d ≤ xs.length) (hbb : b ≤ 1000000) :
    Calls Tryd.prog 11 #[.pointer (some ⟨p, 0, none⟩)] w fun e w' => ∃ v q' s', e = .returned v ∧ Tp p w' p q' s' ∧ Fr s' xs d (b + 1) ∧ Kept p (fun k => k = p) w w' := by
  obtain ⟨k, r, h1, h2, h3, h4⟩ := hfr.parts hx hdx
  have ho := hfr.ops
  have hlf := hfr.left
  have hsy := hfr.syn
  have hrm := hfr.room
  by_cases h0 : r = []
  · subst h0
    rw [List.append_nil] at h3
    refine (open_whole p p q s g a w h hS hb hd _ (hx.take k) h3 _ rfl (by omega)).mono ?_
    rintro e w' ⟨l, rfl, _, lg, hbel⟩
    exact ⟨_, q, s, rfl, lg.tape, ⟨hfr.room, hfr.front, hfr.syn, hfr.low, by omega, hfr.left⟩, Kept.of_below hbel hb⟩
  · have hfits := h.fits.2
    rw [h3, List.length_append, cats_len] at hfits
    obtain ⟨c, s1, e, g1, g2, g3, g4⟩ := replace_cases s (cats (xs.take k)) hd (by rw [cats_len]; omega)
    refine (open_part p p q s g a w h hS hb (by omega) (by omega) hd _ (hx.take k) r h4 h0 h3 _ rfl (by omega) c s1 e).mono ?_
    rintro e w' ⟨q', lv, rfl, _, t', k', _⟩
    refine ⟨_, q', s1, rfl, t', ?_, k'⟩
    rcases g4 with ⟨_, g5, g6, g7⟩ | ⟨_, g5, g6, g7⟩
    · refine ⟨by omega, ⟨takes (xs.take k), takes_front xs k, by rw [g6, cats_take]⟩, ?_, by rw [g6, g7]; exact Nat.le_refl _, by omega, by omega⟩
      rw [g7, cats_len]; exact takes_mono xs h1
    · exact ⟨by omega, by rw [g6]; exact hfr.front, by rw [g7]; exact hfr.syn, by rw [g6, g7]; exact hfr.low, by omega, by omega⟩
/-- Open of a front of records where the power stays. -/
theorem open_last (p : Nat) (q : Option Nat) (s : St) (xs : List (List Nat)) (d b : Nat) (g a : Addr) (w : World) (h : Tp p w p q s) (hS : Start w g a) (hb : p ≤ w.heap.size) (hfr : Fr s xs d b) (hd : s.dead = false) (hl : s.left = 0) (hx : Fit xs) (hdx : d ≤ xs.length) (hbb : b ≤ 1000000) :
    Calls Tryd.prog 11 #[.pointer (some ⟨p, 0, none⟩)] w fun e w' => ∃ q' l k syn' ops' n, d ≤ k ∧ k ≤ xs.length ∧ takes (xs.take k) = n ∧ e = .returned (.tuple #[.pointer (some ⟨l, 0, none⟩), .int .i64 0]) ∧ Lg p w' l p q' (Ls 1048576 (xs.take k) syn' ops') n ∧ Kept p (fun k => k = p) w w' := by
  obtain ⟨k, r, h1, h2, h3, h4⟩ := hfr.parts hx hdx
  have ho := hfr.ops
  have e : s = ⟨1048576, cats (xs.take k) ++ r, s.syn, s.ops, 0, false⟩ := by
    obtain ⟨room, bs, syn, ops, left, dead⟩ := s
    obtain ⟨hr, _⟩ := hfr
    simp only at hr h3 hd hl
    simp [hr, h3, hd, hl]
  rw [e] at h
  refine (npart p p q 1048576 s.syn s.ops _ (xs.take k) r g a w h hS hb (hx.take k) h4 rfl (by decide) (by omega)).mono ?_
  rintro e w' ⟨q', l, syn', ops', _, rfl, _, lg, kp, _⟩
  exact ⟨q', l, k, syn', ops', _, h1, h2, rfl, rfl, lg, kp⟩

theorem pick_any (W w : World) (ao : Option Addr) (n cap : Nat) (ys : List Int) (hn : ys.length = n) (hy : Nums W ao ys) (hb : Below W.heap.size W w) (i : Int) :
    Calls Tryd.prog 24 #[.slice ao n cap, .int .i64 i] w fun e w' => ∃ v, e = .returned (.int .i64 v) ∧ w' = w := by
  by_cases h0 : i < 0
  · clear hn hy hb
    go_enter Tryd.func24, Tryd.ntmps24
    go_wp2
    go_ret
    first | exact ⟨_, rfl, rfl⟩ | exact ⟨⟨_, rfl⟩, rfl⟩
  · obtain ⟨k, rfl⟩ : ∃ k : Nat, i = (k : Int) := ⟨i.toNat, by omega⟩
    by_cases h1 : k < n
    · obtain ⟨ad, rfl, hc, _, _⟩ := hy k (by omega)
      have hc' : w.cell? (ad.add k) = some (.int .i64 (ys.getD k 0)) := by rw [hb.cell (blk_lt hc)]; exact hc
      have h2 : (k : Int) < (n : Int) := by omega
      clear hn hy hb hc
      go_enter Tryd.func24, Tryd.ntmps24
      go_wp2
      go_ret
      first | exact ⟨_, rfl, rfl⟩ | exact ⟨⟨_, rfl⟩, rfl⟩
    · have h2 : ¬ (k : Int) < (n : Int) := by omega
      clear hn hy hb
      go_enter Tryd.func24, Tryd.ntmps24
      go_wp2
      go_ret
      first | exact ⟨_, rfl, rfl⟩ | exact ⟨⟨_, rfl⟩, rfl⟩
theorem RowsArg.take {w : World} {ao : Option Addr} {xs : List (List Nat)} (h : RowsArg w ao xs) (k : Nat) : RowsArg w ao (xs.take k) := by
  intro i hi
  rw [List.length_take] at hi
  have e : (xs.take k).getD i [] = xs.getD i [] := by rw [List.getD_eq_getElem?_getD, List.getD_eq_getElem?_getD, List.getElem?_take_of_lt (by omega)]
  rw [e]; exact h i (by omega)
end Go.Proofs.YtbfepfpocgijgaaDoor
