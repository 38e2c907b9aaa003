/- A message's refusal: plain. -/
import Derived.Test.YtojmnlbdhpledaaDoorRConf
namespace Go.Proofs.YtojmnlbdhpledaaDoor
open Go.RowKit

theorem putE_err0 (e : En) (bs : List Nat) : (putE e (bs, 0)).2 = wrongE e.kind e.text.size e.ms.length e.to := by
  unfold putE
  rw [putEntry_err]; rfl
theorem putE_keep (e : En) (s : List Nat × Nat) (h : s.2 ≠ 0) : (putE e s).2 = s.2 := by
  unfold putE
  rw [putEntry_err]
  simp [firstOf, h]
/-- the first entry that is refused. -/
def esErr : List En → Nat
  | [] => 0
  | e :: es => if wrongE e.kind e.text.size e.ms.length e.to ≠ 0 then wrongE e.kind e.text.size e.ms.length e.to else esErr es
theorem putEs_keep : ∀ (es : List En) (s : List Nat × Nat), s.2 ≠ 0 → (putEs es s).2 = s.2
  | [], _, _ => rfl
  | e :: es, s, h => by
    have h1 := putE_keep e s h
    show (putEs es (putE e s)).2 = s.2
    rw [putEs_keep es (putE e s) (by rw [h1]; exact h), h1]
theorem putEs_err : ∀ (es : List En) (s : List Nat × Nat), s.2 = 0 → (putEs es s).2 = esErr es
  | [], _, h => h
  | e :: es, s, h => by
    obtain ⟨bs, er⟩ := s
    simp only at h
    subst h
    have h1 := putE_err0 e bs
    show (putEs es (putE e (bs, 0))).2 = esErr (e :: es)
    unfold esErr
    split
    · next h2 => rw [putEs_keep es _ (by rw [h1]; exact h2), h1]
    · next h2 => exact putEs_err es _ (by rw [h1]; simpa using h2)
theorem putEntries_err (es : List En) (s : List Nat × Nat) : (putEntries es s).2 = firstOf [s.2, refuse 6 es.length, esErr es] := by
  unfold putEntries
  by_cases h1 : s.2 = 0
  · by_cases h2 : refuse 6 (es.length : Int) = 0
    · rw [if_pos ⟨h1, h2⟩, putEs_err _ _ (by rw [putRule_err]; simp [h1, h2])]
      simp [firstOf, h1, h2]
    · rw [if_neg (fun h => h2 h.2), putRule_err]
      simp [firstOf, h1, h2]
  · rw [if_neg (fun h => h1 h.1), putRule_err]
    simp [firstOf, h1]
theorem put_err (x : Mg) : (x.put ([], 0)).2 = firstOf [refuse 2 x.kind, refuse 6 x.terms.length, refuse 6 x.es.length, esErr x.es, refuse 5 x.old.length, refuse 5 x.new.length] := by
  unfold Mg.put putMsg putConfig
  rw [putList_err, putList_err, putEntries_err, putList_err, putRule_err, putInts_err, putRule_err, putInts_err]
  have hb := bit_ok x.yes
  simp only [firstOf]
  by_cases h1 : refuse 2 x.kind = 0 <;> by_cases h2 : refuse 6 (x.terms.length : Int) = 0 <;> by_cases h3 : refuse 6 (x.es.length : Int) = 0 <;> by_cases h4 : esErr x.es = 0 <;> by_cases h5 : refuse 5 (x.old.length : Int) = 0 <;> simp [h1, h2, h3, h4, h5, hb]
theorem ref_kind {n : Int} (h : n < 1 ∨ 15 < n) : refuse 2 n = 3 := by unfold refuse; rw [if_pos (by show (n < (1 : Int) ∨ (15 : Int) < n); exact h)]; rfl
theorem ref_kind0 {n : Int} (h1 : 1 ≤ n) (h2 : n ≤ 15) : refuse 2 n = 0 := by unfold refuse; rw [if_neg (by show ¬ (n < (1 : Int) ∨ (15 : Int) < n); omega)]
theorem ref_six {n : Nat} (h : 64 < n) : refuse 6 (n : Int) = 4 := by unfold refuse; rw [if_pos (by show ((n : Int) < (0 : Int) ∨ (64 : Int) < (n : Int)); omega)]; rfl
theorem ref_six0 {n : Nat} (h : n ≤ 64) : refuse 6 (n : Int) = 0 := by unfold refuse; rw [if_neg (by show ¬ ((n : Int) < (0 : Int) ∨ (64 : Int) < (n : Int)); omega)]
theorem ref_five {n : Nat} (h : 9 < n) : refuse 5 (n : Int) = 4 := by unfold refuse; rw [if_pos (by show ((n : Int) < (0 : Int) ∨ (9 : Int) < (n : Int)); omega)]; rfl
theorem ref_five0 {n : Nat} (h : n ≤ 9) : refuse 5 (n : Int) = 0 := by unfold refuse; rw [if_neg (by show ¬ ((n : Int) < (0 : Int) ∨ (9 : Int) < (n : Int)); omega)]
theorem esErr_at : ∀ (es : List En) (i : Nat) (e : En), es[i]? = some e → (∀ (j : Nat) (f : En), j < i → es[j]? = some f → wrongE f.kind f.text.size f.ms.length f.to = 0) → wrongE e.kind e.text.size e.ms.length e.to ≠ 0 → esErr es = wrongE e.kind e.text.size e.ms.length e.to
  | [], i, e, h, _, _ => by simp at h
  | x :: es, 0, e, h, _, hw => by
    simp only [List.getElem?_cons_zero, Option.some.injEq] at h
    subst h
    unfold esErr
    rw [if_pos hw]
  | x :: es, i + 1, e, h, hb, hw => by
    have h0 := hb 0 x (by omega) rfl
    unfold esErr
    rw [if_neg (by rw [h0]; simp)]
    exact esErr_at es i e (by simpa using h) (fun j f hj hf => hb (j + 1) f (by omega) (by simpa using hf)) hw
theorem esErr_zero : ∀ (es : List En), (∀ (j : Nat) (f : En), es[j]? = some f → wrongE f.kind f.text.size f.ms.length f.to = 0) → esErr es = 0
  | [], _ => rfl
  | x :: es, hb => by
    unfold esErr
    rw [if_neg (by rw [hb 0 x rfl]; simp)]
    exact esErr_zero es (fun j f hf => hb (j + 1) f (by simpa using hf))
theorem wrongE_zero {k : Int} {t n : Nat} {o : Int} (h : wrongE k t n o = 0) : 0 ≤ k ∧ k ≤ 4 ∧ t ≤ 16 ∧ n ≤ 9 ∧ 0 ≤ o ∧ o ≤ 2 := by
  by_cases hk : 0 ≤ k ∧ k ≤ 4 ∧ t ≤ 16 ∧ n ≤ 9 ∧ 0 ≤ o ∧ o ≤ 2
  · exact hk
  · exact absurd h (wrong_ne hk)
theorem wrongE_ok {e : En} (h : wrongE e.kind e.text.size e.ms.length e.to = 0) : e.ok := by
  obtain ⟨h1, h2, h3, h4, h5, h6⟩ := wrongE_zero h
  refine ⟨?_, ?_, ?_, ?_⟩
  · unfold refuse; rw [if_neg (by show ¬ (e.kind < (0 : Int) ∨ (4 : Int) < e.kind); omega)]
  · unfold refuse; rw [if_neg (by show ¬ ((e.text.size : Int) < (0 : Int) ∨ (16 : Int) < (e.text.size : Int)); omega)]
  · exact ref_five0 h4
  · unfold refuse; rw [if_neg (by show ¬ (e.to < (0 : Int) ∨ (2 : Int) < e.to); omega)]
/-- what is refused, and why, in the order in which the document asks. -/
structure Told (x : Mg) : Prop where
  kind : x.kind < 1 ∨ 15 < x.kind → (x.put ([], 0)).2 = 3
  many : 1 ≤ x.kind → x.kind ≤ 15 → 64 < x.terms.length ∨ 64 < x.es.length → (x.put ([], 0)).2 = 4
  each : 1 ≤ x.kind → x.kind ≤ 15 → x.terms.length ≤ 64 → x.es.length ≤ 64 → ∀ (i : Nat) (e : En), x.es[i]? = some e → (∀ (j : Nat) (f : En), j < i → x.es[j]? = some f → wrongE f.kind f.text.size f.ms.length f.to = 0) → wrongE e.kind e.text.size e.ms.length e.to ≠ 0 → (x.put ([], 0)).2 = wrongE e.kind e.text.size e.ms.length e.to
  conf : 1 ≤ x.kind → x.kind ≤ 15 → x.terms.length ≤ 64 → x.es.length ≤ 64 → (∀ (j : Nat) (f : En), x.es[j]? = some f → wrongE f.kind f.text.size f.ms.length f.to = 0) → 9 < x.old.length ∨ 9 < x.new.length → (x.put ([], 0)).2 = 4
  fine : 1 ≤ x.kind → x.kind ≤ 15 → x.terms.length ≤ 64 → x.es.length ≤ 64 → (∀ (j : Nat) (f : En), x.es[j]? = some f → wrongE f.kind f.text.size f.ms.length f.to = 0) → x.old.length ≤ 9 → x.new.length ≤ 9 → x.ok
theorem told_msg (x : Mg) : Told x := by
  refine ⟨fun h => ?_, fun h1 h2 h => ?_, fun h1 h2 h3 h4 i e hi hb hw => ?_, fun h1 h2 h3 h4 hb h => ?_, fun h1 h2 h3 h4 hb h5 h6 => ?_⟩
  · rw [put_err, ref_kind h]; rfl
  · rw [put_err, ref_kind0 h1 h2]
    by_cases h3 : 64 < x.terms.length
    · rw [ref_six h3]; rfl
    · rw [ref_six0 (by omega), ref_six (show 64 < x.es.length by omega)]; rfl
  · rw [put_err, ref_kind0 h1 h2, ref_six0 h3, ref_six0 h4, esErr_at x.es i e hi hb hw]
    simp [firstOf, hw]
  · rw [put_err, ref_kind0 h1 h2, ref_six0 h3, ref_six0 h4, esErr_zero x.es hb]
    by_cases h5 : 9 < x.old.length
    · rw [ref_five h5]; rfl
    · rw [ref_five0 (show x.old.length ≤ 9 by omega), ref_five (show 9 < x.new.length by omega)]; rfl
  · refine ⟨ref_kind0 h1 h2, ref_six0 h3, ref_six0 h4, ref_five0 h5, ref_five0 h6, fun e he => ?_⟩
    obtain ⟨i, hi⟩ := List.getElem?_of_mem he
    exact wrongE_ok (hb i e hi)
end Go.Proofs.YtojmnlbdhpledaaDoor
