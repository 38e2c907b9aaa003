/- Messages in order: rows of them that grow. -/
import Derived.Test.YtnplhoekkoomiaaNKnown
import Derived.Maps.AppendAt
namespace Go.Proofs.Ytnplhoekkoomiaa
open Go.RowKit Go.Maps

def nth (j : Nat) : M := ⟨0, 0, 1, (j : Int)⟩
/-- the messages a + 1 to b. -/
def run (a b : Nat) : List M := (List.range (b - a)).map fun j => nth (a + 1 + j)
theorem run_len (a b : Nat) : (run a b).length = b - a := by simp [run]
theorem run_get {a b j : Nat} (h : a + j < b) : (run a b)[j]? = some (nth (a + 1 + j)) := by
  unfold run
  rw [List.getElem?_map, List.getElem?_range (by omega)]; rfl
theorem run_self (a : Nat) : run a a = [] := by simp [run]
theorem run_snoc {a b : Nat} (h : a ≤ b) : run a (b + 1) = run a b ++ [nth (b + 1)] := by
  unfold run
  rw [show b + 1 - a = (b - a) + 1 by omega, List.range_succ, List.map_append]
  simp only [List.map_cons, List.map_nil]
  rw [show a + 1 + (b - a) = b + 1 by omega]
theorem run_append {a b c : Nat} (h1 : a ≤ b) (h2 : b ≤ c) : run a b ++ run b c = run a c := by
  induction c with
  | zero => obtain rfl : b = 0 := by omega
            obtain rfl : a = 0 := by omega
            simp [run]
  | succ c ih =>
    by_cases h : b = c + 1
    · subst h; rw [run_self, List.append_nil]
    · rw [run_snoc (show b ≤ c by omega), run_snoc (show a ≤ c by omega), ← List.append_assoc, ih (by omega)]
theorem run_erase {a b : Nat} (h : a < b) : (run a b).eraseIdx 0 = run (a + 1) b := by
  rw [← run_append (show a ≤ a + 1 by omega) h, run_snoc (Nat.le_refl a), run_self]; rfl
theorem run_wf (a b : Nat) : ∀ m ∈ run a b, m.wf := by
  intro m hm
  simp only [run, List.mem_map] at hm
  obtain ⟨j, _, rfl⟩ := hm
  exact ⟨wf0, wf0⟩

def flat (ls : List M) : List Value := ls.flatMap fun m => m.cells.toList
theorem flat_len (ls : List M) : (flat ls).length = ls.length * 13 := by
  induction ls with
  | nil => rfl
  | cons m ls ih =>
    show ((m.cells.toList) ++ flat ls).length = _
    rw [List.length_append, ih, Array.length_toList, M.size, List.length_cons]; omega
theorem flat_snoc (ls : List M) (m : M) : flat (ls ++ [m]) = flat ls ++ m.cells.toList := by simp [flat]
theorem flat_get : ∀ (ls : List M) (i : Nat) (m : M) (j : Nat) (u : Value), ls[i]? = some m → m.cells[j]? = some u → (flat ls)[i * 13 + j]? = some u
  | [], i, m, j, u, h, _ => by simp at h
  | x :: ls, i, m, j, u, h, hu => by
    have hj : j < 13 := by have := (Array.getElem?_eq_some_iff.1 hu).1; rw [M.size] at this; exact this
    show (x.cells.toList ++ flat ls)[i * 13 + j]? = some u
    cases i with
    | zero =>
      simp at h; subst h
      rw [List.getElem?_append_left (by rw [Array.length_toList, M.size]; omega), Array.getElem?_toList]
      simpa using hu
    | succ i =>
      rw [List.getElem?_append_right (by rw [Array.length_toList, M.size]; omega), Array.length_toList, M.size]
      rw [show (i + 1) * 13 + j - 13 = i * 13 + j by omega]
      exact flat_get ls i m j u (by simpa using h) hu
theorem Row.of_own {w : World} {base g cap n : Nat} {ls : List M} (h : w.ownsRow base 36 13 (.slice (some ⟨g, 0, none⟩) n cap) n (flat ls)) (hn : ls.length = n) : Row w g ls := by
  rcases h.2 with ⟨e, _⟩ | ⟨g', cap', cur, e, hb, hh, hc, hm, hs, ht⟩
  · cases e
  · cases e
    refine ⟨cur, _, hh, fun i m j u hi hu => ?_⟩
    have hil := (List.getElem?_eq_some_iff.1 hi).1
    have hj : j < 13 := by have := (Array.getElem?_eq_some_iff.1 hu).1; rw [M.size] at this; exact this
    have := flat_get ls i m j u hi hu
    rw [← ht, List.getElem?_take_of_lt (by omega), Array.getElem?_toList] at this
    exact this
theorem Try.infoM : (Try.prog.info? 36).map (fun i => (i.zero, i.size, i.bytes)) = some (some (.agg (M.cells ⟨0, 0, 0, 0⟩)), 13, 168) := by kernel_rfl
theorem cells_one (m : M) : ∀ u ∈ m.cells.toList, u.oneCell' = true := by
  intro u hu
  simp only [M.cells, List.mem_cons, List.not_mem_nil, or_false] at hu
  rcases hu with rfl | rfl | rfl | rfl | rfl | rfl | rfl | rfl | rfl | rfl | rfl | rfl | rfl <;> rfl

/-- a net stays while a row that shares no message's block is appended to. -/
theorem Nt.grown {base b : Nat} {w w' : World} {p : Nat} {bs : List Nat} {ms : List M} {side : List Int} {lost : Nat} {lv : Value} {n : Nat} {xs : List Value} (h : Nt base w p bs ms side lost) (hown : w.ownsRow b 36 13 lv n xs) (hg : w.grownBy w' lv.ownBlock) (hd : ∀ k, lv.ownBlock = some k → k ∉ bs) : Nt base w' p bs ms side lost :=
  h.kept fun k hk _ hc => hg.block k hk fun e => by
    obtain ⟨_, cur, fr, h1⟩ := own_tag hown k e.symm
    rcases hc _ _ _ h1 with h2 | h2 | ⟨_, h2⟩
    · exact absurd h2 (by decide)
    · exact absurd h2 (by decide)
    · exact hd k e.symm h2
theorem Nt.lt {base : Nat} {w : World} {p : Nat} {bs : List Nat} {ms : List M} {side : List Int} {lost : Nat} (h : Nt base w p bs ms side lost) : ∀ k ∈ bs, k < w.heap.size := fun k hk => by
  obtain ⟨v, mv, h1, h2, h3, h4, h5⟩ := h
  obtain ⟨i, hi⟩ := List.getElem?_of_mem hk
  have hil := (List.getElem?_eq_some_iff.1 hi).1
  have hl := h4.1
  obtain ⟨m, hm⟩ : ∃ m, ms[i]? = some m := ⟨_, List.getElem?_eq_getElem (by omega)⟩
  exact blk_lt' (h4.2 i k m hi hm).2
end Go.Proofs.Ytnplhoekkoomiaa
