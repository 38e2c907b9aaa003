/- What is known of a trace that a log makes: plain. -/
import Derived.Test.YtndpkpkijfplaaaGKnown
namespace Go.Proofs.Ytndpkpkijfplaaa
open Go.RowKit

/-- a log: requests whose numbers rise, client by client. -/
structure Lg (E : Int → Int → En) (L : List En) : Prop where
  is : ∀ e ∈ L, e = E e.client e.seq ∧ isReq e.kind ∧ 1 ≤ e.client ∧ 1 ≤ e.seq
  up : ∀ (i j : Nat) (a b : En), i < j → L[i]? = some a → L[j]? = some b → a.client = b.client → a.seq < b.seq
/-- what is known goes with a log. -/
structure Con (E : Int → Int → En) (L : List En) (S : Kn) : Prop where
  calls : ∀ c s e, S.calls c s = some e → e = E c s
  asked : ∀ e ∈ L, S.calls e.client e.seq = some e
  place : ∀ c s p, S.place c s = some p → ∃ (i : Nat) (e : En), p = (i : Int) + 1 ∧ L[i]? = some e ∧ e.client = c ∧ e.seq = s
  holder : ∀ p c s, S.holder p = some (c, s) → ∃ (i : Nat) (e : En), p = (i : Int) + 1 ∧ L[i]? = some e ∧ e.client = c ∧ e.seq = s
theorem Con.start (E : Int → Int → En) : Con E [] .nothing := ⟨(fun _ _ _ h => by cases h), (fun e h => by cases h), (fun _ _ _ h => by cases h), (fun _ _ _ h => by cases h)⟩
theorem Lg.start (E : Int → Int → En) : Lg E [] := ⟨(fun e h => by cases h), fun i j a b _ h => by simp at h⟩
theorem Lg.same {E : Int → Int → En} {L : List En} (h : Lg E L) {i j : Nat} {a b : En} (hi : L[i]? = some a) (hj : L[j]? = some b) (hc : a.client = b.client) (hs : a.seq = b.seq) : i = j := by
  rcases Nat.lt_trichotomy i j with x | x | x
  · have := h.up i j a b x hi hj hc; omega
  · exact x
  · have := h.up j i b a x hj hi hc.symm; omega
/-- the greatest number so far is below the next one. -/
theorem topTo_lt {E : Int → Int → En} {L : List En} (h : Lg E L) {i : Nat} {e : En} (hi : L[i]? = some e) : topTo (L.take i) e.client < e.seq := by
  have key : ∀ k, k ≤ i → topTo (L.take k) e.client = 0 ∨ ∃ (j : Nat) (a : En), j < k ∧ L[j]? = some a ∧ a.client = e.client ∧ topTo (L.take k) e.client = a.seq := fun k => by
    induction k with
    | zero => intro _; left; rfl
    | succ k ih =>
      intro hk
      have hil : i < L.length := (List.getElem?_eq_some_iff.1 hi).1
      have hx : L[k]? = some L[k] := List.getElem?_eq_getElem (by omega)
      rw [topTo_take hx]
      by_cases hc : e.client = L[k].client
      · right
        exact ⟨k, _, Nat.lt_succ_self k, hx, hc.symm, by simp only; rw [if_pos hc]⟩
      · rcases ih (by omega) with h0 | ⟨j, a, h1, h2, h3, h4⟩
        · left; simp only; rw [if_neg hc]; exact h0
        · right; exact ⟨j, a, by omega, h2, h3, by simp only; rw [if_neg hc]; exact h4⟩
  have h1 := (h.is e (List.mem_of_getElem? hi)).2.2.2
  rcases key i (Nat.le_refl _) with h0 | ⟨j, a, h2, h3, h4, h5⟩
  · rw [h0]; omega
  · rw [h5]; exact h.up j i a e h2 h3 hi h4
/-- a request may stand where the log has it. -/
theorem Con.stand {E : Int → Int → En} {L : List En} {S : Kn} (h : Con E L S) (hL : Lg E L) {i : Nat} {e : En} (hi : L[i]? = some e) :
    S.mayStand e.client e.seq ((i : Int) + 1) ∧ Con E L (S.stand e.client e.seq ((i : Int) + 1)) := by
  have hm := List.mem_of_getElem? hi
  refine ⟨⟨by rw [h.asked e hm]; rfl, by omega, ?_, ?_⟩, ⟨h.calls, h.asked, fun c s p hp => ?_, fun p c s hp => ?_⟩⟩
  · cases hp : S.place e.client e.seq with
    | none => rfl
    | some p =>
      obtain ⟨j, a, h1, h2, h3, h4⟩ := h.place _ _ _ hp
      have := hL.same h2 hi h3 h4
      subst this
      exact h1
  · cases hp : S.holder ((i : Int) + 1) with
    | none => rfl
    | some r =>
      obtain ⟨c, s⟩ := r
      obtain ⟨j, a, h1, h2, h3, h4⟩ := h.holder _ _ _ hp
      have : j = i := by omega
      subst this
      rw [hi] at h2
      cases h2
      simp [h3, h4]
  · unfold Kn.stand upd2 at hp
    simp only at hp
    split at hp
    · rename_i hh
      cases hp
      exact ⟨i, e, rfl, hi, hh.1.symm, hh.2.symm⟩
    · exact h.place c s p hp
  · unfold Kn.stand upd1 at hp
    simp only at hp
    split at hp
    · rename_i hh
      cases hp
      exact ⟨i, e, hh, hi, rfl, rfl⟩
    · exact h.holder p c s hp
/-- a call of an entry that goes with the clients' requests. -/
theorem Con.call {E : Int → Int → En} {L : List En} {S : Kn} (h : Con E L S) {v : Ev} (hk : v.kind = 1) (he : v.entry = E v.client v.seq) (hm : mayCall v.client v.seq v.entry) :
    ∃ S', S.take v = some S' ∧ Con E L S' ∧ S'.calls v.client v.seq = some v.entry ∧ ∀ c s e, S.calls c s = some e → S'.calls c s = some e := by
  have ht : S.take v = S.call v.client v.seq v.entry := by unfold Kn.take; rw [if_pos hk]
  rw [ht]
  cases h0 : S.calls v.client v.seq with
  | none =>
    refine ⟨_, call_new hm h0, ⟨fun c s e hc => ?_, fun e hx => ?_, h.place, h.holder⟩, by simp [upd2], fun c s e hc => ?_⟩
    · simp only [upd2] at hc
      split at hc
      · rename_i hh
        cases hc
        rw [hh.1, hh.2]; exact he
      · exact h.calls c s e hc
    · simp only [upd2]
      split
      · rename_i hh
        have := h.asked e hx
        rw [hh.1, hh.2, h0] at this
        cases this
      · exact h.asked e hx
    · simp only [upd2]
      split
      · rename_i hh
        rw [hh.1, hh.2, h0] at hc
        cases hc
      · exact hc
  | some was =>
    have hw : was = v.entry := by rw [h.calls _ _ _ h0, he]
    refine ⟨S, ?_, h, ?_, fun _ _ _ hc => hc⟩
    · rw [call_again hm h0, if_pos (by rw [hw]; exact sameP_self _)]
    · rw [h0, hw]
/-- an answer that goes with the log. -/
theorem Con.done {E : Int → Int → En} {L : List En} {S : Kn} (h : Con E L S) (hL : Lg E L) {i : Nat} {e : En} (hi : L[i]? = some e) {v : Ev} (hk : v.kind = 2) (hc : v.client = e.client) (hs : v.seq = e.seq) (hp : v.index = (i : Int) + 1) :
    ∃ S', S.take v = some S' ∧ Con E L S' ∧ S'.calls = S.calls := by
  have ht : S.take v = S.settle [(e.client, e.seq, (i : Int) + 1)] := by
    unfold Kn.take; rw [if_neg (by omega), if_neg (by omega), if_pos hk, hc, hs, hp]
  obtain ⟨h1, h2⟩ := h.stand hL hi
  refine ⟨_, ?_, h2, rfl⟩
  rw [ht]
  simp only [Kn.settle]
  rw [if_pos h1]
theorem Con.settle {E : Int → Int → En} {L : List En} (hL : Lg E L) (n : Nat) : ∀ (k : Nat) (S : Kn), Con E L S → k + n ≤ L.length → ∃ S', S.settle (claimsFrom k ((L.drop k).take n)) = some S' ∧ Con E L S' ∧ S'.calls = S.calls := by
  induction n with
  | zero => intro k S h _; exact ⟨S, by simp [claimsFrom, Kn.settle], h, rfl⟩
  | succ n ih =>
    intro k S h hk
    have hx : L[k]? = some L[k] := List.getElem?_eq_getElem (by omega)
    obtain ⟨h1, h2⟩ := h.stand hL hx
    obtain ⟨S', h3, h4, h5⟩ := ih (k + 1) _ h2 (by omega)
    refine ⟨S', ?_, h4, h5⟩
    rw [List.drop_eq_getElem_cons (by omega), List.take_succ_cons]
    simp only [claimsFrom, Kn.settle]
    rw [if_pos h1]; exact h3
/-- a read of a front of the log. -/
theorem Con.read {E : Int → Int → En} {L : List En} {S : Kn} (h : Con E L S) (hL : Lg E L) {n : Nat} (hn : n ≤ L.length) {v : Ev} (hk : v.kind = 3) (hi : v.index = (n : Int)) (he : v.es = L.take n) :
    ∃ S', S.take v = some S' ∧ Con E L S' ∧ S'.calls = S.calls := by
  have hlen : (L.take n).length = n := by rw [List.length_take]; omega
  obtain ⟨S', h3, h4, h5⟩ := Con.settle hL n 0 S h (by omega)
  rw [List.drop_zero] at h3
  have hmr : mayRead S (L.take n) = true := by
    rw [mayRead_iff]
    intro i e hx
    have hin : i < n := by have := (List.getElem?_eq_some_iff.1 hx).1; omega
    have hx2 : L[i]? = some e := by rw [List.getElem?_take, if_pos hin] at hx; exact hx
    refine ⟨?_, ?_⟩
    · unfold wasCalled
      rw [h.asked e (List.mem_of_getElem? hx2)]
      exact decide_eq_true (sameP_self e)
    · rw [List.take_take, Nat.min_eq_left (by omega)]
      exact topTo_lt hL hx2
  refine ⟨S', ?_, h4, h5⟩
  unfold Kn.take
  rw [if_neg (by omega), if_pos hk, he, hlen, if_pos ⟨hi, hmr⟩]
  exact h3
/-- the log grows. -/
theorem Lg.more {E : Int → Int → En} {L : List En} (hL : Lg E L) {e : En} (he : e = E e.client e.seq ∧ isReq e.kind ∧ 1 ≤ e.client ∧ 1 ≤ e.seq) (hu : ∀ a ∈ L, a.client = e.client → a.seq < e.seq) : Lg E (L ++ [e]) := by
  refine ⟨fun x hx => ?_, fun i j a b hij hi hj hc => ?_⟩
  · rcases List.mem_append.1 hx with h | h
    · exact hL.is x h
    · simp only [List.mem_singleton] at h; subst h; exact he
  · by_cases hjl : j < L.length
    · rw [List.getElem?_append_left hjl] at hj
      rw [List.getElem?_append_left (by omega)] at hi
      exact hL.up i j a b hij hi hj hc
    · rw [List.getElem?_append_right (by omega)] at hj
      have hj0 : j - L.length = 0 := by have := (List.getElem?_eq_some_iff.1 hj).1; simp at this; omega
      rw [hj0] at hj
      simp at hj
      subst hj
      rw [List.getElem?_append_left (by omega)] at hi
      exact hu a (List.mem_of_getElem? hi) hc
theorem Con.more {E : Int → Int → En} {L : List En} {S : Kn} (h : Con E L S) {e : En} (he : S.calls e.client e.seq = some e) : Con E (L ++ [e]) S := by
  refine ⟨h.calls, fun x hx => ?_, fun c s p hp => ?_, fun p c s hp => ?_⟩
  · rcases List.mem_append.1 hx with h1 | h1
    · exact h.asked x h1
    · simp only [List.mem_singleton] at h1; subst h1; exact he
  · obtain ⟨i, a, h1, h2, h3⟩ := h.place c s p hp
    exact ⟨i, a, h1, by rw [List.getElem?_append_left (List.getElem?_eq_some_iff.1 h2).1]; exact h2, h3⟩
  · obtain ⟨i, a, h1, h2, h3⟩ := h.holder p c s hp
    exact ⟨i, a, h1, by rw [List.getElem?_append_left (List.getElem?_eq_some_iff.1 h2).1]; exact h2, h3⟩
theorem know_snoc {vs : List Ev} {v : Ev} {S S' : Kn} (h : knowOf vs = some S) (ht : S.take v = some S') : knowOf (vs ++ [v]) = some S' := by
  unfold knowOf at h ⊢
  rw [knowGo_snoc, h]; exact ht
end Go.Proofs.Ytndpkpkijfplaaa
