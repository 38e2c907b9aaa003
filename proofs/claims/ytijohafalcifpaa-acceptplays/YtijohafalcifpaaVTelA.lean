/- AcceptTells: what was accepted beside a row of numbers; what is told of it. Plain. -/
import Derived.Test.YtijohafalcifpaaVFace
namespace Go.Proofs.Ytijohafalcifpaa
open Go.RowKit Go.Maps

/-- cells that are numbers. -/
def IntsC (cs : Array Value) (n : Nat) (h : Nat → Int) : Prop := cs.size = n ∧ ∀ j, j < n → cs[j]? = some (.int .i64 (h j))
def setN (h : Nat → Int) (k : Nat) (x : Int) (j : Nat) : Int := if j = k then x else h j
theorem IntsC.set {cs : Array Value} {n : Nat} {h : Nat → Int} (hc : IntsC cs n h) (k : Nat) (x : Int) : IntsC (cs.setIfInBounds k (.int .i64 x)) n (setN h k x) := by
  refine ⟨by simp [hc.1], fun j hj => ?_⟩
  rw [Array.getElem?_setIfInBounds]
  unfold setN
  by_cases e : k = j
  · subst e; simp [hc.1, hj]
  · rw [if_neg e, if_neg (fun x => e x.symm), hc.2 j hj]
theorem intsC_zero (n : Nat) : IntsC (Array.replicate n (.int .i64 0)) n fun _ => 0 := ⟨by simp, fun j hj => by simp [hj]⟩
/-- the vote of a number. -/
def numE (b : Int) : En := ⟨0, 0, b, ⟨#[]⟩, [], 0⟩
/-- what was accepted is what the row says. -/
structure Tok (f : Vf) (h : Nat → Int) : Prop where
  at' : ∀ s : Nat, 1 ≤ s → s ≤ 20 → f (s : Int) = if h s = 0 then none else some (h s, numE (h s))
  out : ∀ s : Int, s < 1 ∨ 20 < s → f s = none
theorem Tok.start : Tok Vf.none (fun _ => 0) := ⟨fun _s _ _ => rfl, fun _s _ => rfl⟩
theorem Tok.put {f : Vf} {h : Nat → Int} (t : Tok f h) {s : Nat} (h1 : 1 ≤ s) (h2 : s ≤ 20) {b : Int} (hb : b ≠ 0) : Tok (f.put (s : Int) b (numE b)) (setN h s b) := by
  refine ⟨fun x hx1 hx2 => ?_, fun x hx => ?_⟩
  · unfold Vf.put setN
    by_cases e : x = s
    · subst e; simp [hb]
    · rw [if_neg (by omega), if_neg e]; exact t.at' x hx1 hx2
  · unfold Vf.put
    rw [if_neg (by omega)]; exact t.out x hx
/-- how many votes there are ahead of a slot, from a slot on. -/
def cnt (f : Vf) (frm : Int) (s : Nat) : Nat := (toldN f (max frm 1) ((s : Int) - max frm 1).toNat).length
theorem cnt_one (f : Vf) (frm : Int) : cnt f frm 1 = 0 := by
  unfold cnt
  rw [show (((1 : Nat) : Int) - max frm 1).toNat = 0 by omega]; rfl
theorem cnt_skip {f : Vf} {frm : Int} {s : Nat} (_h1 : 1 ≤ s) (h : (s : Int) < frm ∨ f (s : Int) = none) : cnt f frm (s + 1) = cnt f frm s := by
  unfold cnt
  by_cases hlt : (s : Int) < max frm 1
  · rw [show (((s + 1 : Nat) : Int) - max frm 1).toNat = 0 by omega, show ((s : Int) - max frm 1).toNat = 0 by omega]
  · have hf : f (s : Int) = none := by rcases h with h | h; omega; exact h
    obtain ⟨n, hn⟩ : ∃ n : Nat, (s : Int) = max frm 1 + n := ⟨((s : Int) - max frm 1).toNat, by omega⟩
    rw [show (((s + 1 : Nat) : Int) - max frm 1).toNat = n + 1 by omega, show ((s : Int) - max frm 1).toNat = n by omega]
    simp only [toldN, ← hn, Vf.at, hf, List.append_nil]
theorem cnt_hit {f : Vf} {frm : Int} {s : Nat} {b : Int} {e : En} (h1 : 1 ≤ s) (h2 : s ≤ 64) (hs : ¬ (s : Int) < frm) (hf : f (s : Int) = some (b, e)) :
    cnt f frm (s + 1) = cnt f frm s + 1 ∧ (toldOf f frm)[cnt f frm s]? = some ⟨s, b, e⟩ ∧ cnt f frm s < (toldOf f frm).length := by
  obtain ⟨n, hn⟩ : ∃ n : Nat, (s : Int) = max frm 1 + n := ⟨((s : Int) - max frm 1).toNat, by omega⟩
  have e1 : cnt f frm s = (toldN f (max frm 1) n).length := by unfold cnt; rw [show ((s : Int) - max frm 1).toNat = n by omega]
  have e2 : cnt f frm (s + 1) = (toldN f (max frm 1) (n + 1)).length := by unfold cnt; rw [show (((s + 1 : Nat) : Int) - max frm 1).toNat = n + 1 by omega]
  have e3 : toldN f (max frm 1) (n + 1) = toldN f (max frm 1) n ++ [⟨(s : Int), b, e⟩] := by
    simp only [toldN, ← hn, Vf.at, hf]
  have e4 : toldOf f frm = (toldN f (max frm 1) n ++ [⟨(s : Int), b, e⟩]) ++ toldN f (max frm 1 + (n + 1 : Nat)) (64 - s) := by
    unfold toldOf
    rw [show (65 - max frm 1).toNat = (n + 1) + (64 - s) by omega, toldN_add, e3]
  refine ⟨by rw [e2, e3, e1]; simp, ?_, ?_⟩
  · rw [e4, e1, List.append_assoc, List.getElem?_append_right (Nat.le_refl _)]; simp
  · rw [e4, e1]; simp
theorem told_out {f : Vf} {a : Int} {n : Nat} (h : ∀ s : Int, a ≤ s → f s = none) : toldN f a n = [] := by
  induction n with
  | zero => rfl
  | succ n ih => simp only [toldN, ih, Vf.at, h (a + n) (by omega), List.append_nil]
theorem cnt_end {f : Vf} {frm : Int} (h : ∀ s : Int, 20 < s → f s = none) : cnt f frm 21 = (toldOf f frm).length := by
  unfold cnt toldOf
  by_cases hf : max frm 1 ≤ 21
  · obtain ⟨n, hn⟩ : ∃ n : Nat, (21 : Int) = max frm 1 + n := ⟨((21 : Int) - max frm 1).toNat, by omega⟩
    rw [show (((21 : Nat) : Int) - max frm 1).toNat = n by omega, show (65 - max frm 1).toNat = n + 44 by omega, toldN_add, told_out (a := max frm 1 + n) (fun s hs => h s (by omega)), List.append_nil]
  · rw [show (((21 : Nat) : Int) - max frm 1).toNat = 0 by omega, told_out (n := (65 - max frm 1).toNat) (fun s hs => h s (by omega))]; rfl
theorem cnt_le (f : Vf) (frm : Int) (s : Nat) (hs : s ≤ 64) : cnt f frm s ≤ 64 := by
  have := toldN_len f (max frm 1) ((s : Int) - max frm 1).toNat
  unfold cnt; omega
end Go.Proofs.Ytijohafalcifpaa
