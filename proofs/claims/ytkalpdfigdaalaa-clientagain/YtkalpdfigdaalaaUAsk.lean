/- Ask: a contract; Put's answer in one form. -/
import Derived.Test.YtkalpdfigdaalaaUPut
namespace Go.Proofs.Ytkalpdfigdaalaa
open Go.RowKit Go.Maps
attribute [local go_sem ↓] Go.wp_at_zero Go.wp_at_succ

theorem findOf_vals (es : List En) (c s : Int) : (findOf es c s).2 = 0 ∨ (findOf es c s).2 = 1 ∨ (findOf es c s).2 = 2 ∨ (findOf es c s).2 = 19 := by
  unfold findOf
  split
  · exact Or.inr (Or.inl rfl)
  · split
    · exact Or.inl rfl
    · split
      · exact Or.inr (Or.inr (Or.inr rfl))
      · exact Or.inr (Or.inr (Or.inl rfl))
theorem face_num {c : Int} (h : c = 1 ∨ c = 2 ∨ c = 19) : faceOf (fun m => c == m) = c := by
  rcases h with rfl | rfl | rfl <;> decide
theorem face_nil : faceOf (fun _ => false) = 0 := rfl
set_option maxRecDepth 20000 in
theorem ask_any {D : Nat → Prop} {w : World} {p q : Nat} {es : List En} (h : Tb D w p q es) (hl : es.length ≤ 1000000) (hr : Rise es) (c s : Int) (hc : wf64 c) :
    Calls Try.prog 17 #[.pointer (some ⟨p, 0, none⟩), .int .i64 c, .int .i64 s] w fun e w' => e = .returned (.tuple #[.int .i64 (findOf es c s).1, .int .i64 (findOf es c s).2]) ∧ Below w.heap.size w w' := by
  have CF := hide (find_any h hl hr c s hc)
  have hv := findOf_vals es c s
  obtain ⟨⟨a, b⟩, hr0⟩ : ∃ r, findOf es c s = r := ⟨_, rfl⟩
  rw [hr0] at CF hv ⊢
  have HV := hide hv
  clear h hr hr0 hc hv
  go_enter Try.func17, Try.ntmps17
  go_wp2_with fail
  refine (unhide CF).mono ?_
  rintro x w1 ⟨v, rfl, hv, b1⟩
  have CN : Hid (Calls Try.prog 25 #[v] w1 fun e w' => e = .returned (.int .i64 b) ∧ Below w1.heap.size w1 w') := hide (by
    rcases hv with ⟨h0, rfl⟩ | ⟨h1, -, k, rfl, hR⟩
    · have := number_says .nilIface _ w1 (Says.nil w1)
      rw [face_nil] at this
      simp only at h0
      rw [h0]; exact this
    · have := number_says (refV k) _ w1 (Says.ref hR)
      rw [face_num (by have := unhide HV; simp only at this h1 ⊢; omega)] at this
      exact this)
  have B1 := hide b1
  clear b1 hv CF
  go_wp2_with fail
  refine (unhide CN).mono ?_
  rintro x w2 ⟨rfl, b2⟩
  have B2 := hide (below_far (unhide B1) b2)
  clear b2
  go_wp2
  refine bodyPost_ret (v := .tuple #[.int .i64 a, .int .i64 b]) (by simp [results, Try.results17, go_sem]) rfl ⟨rfl, unhide B2⟩
/-- the place that Put tells. -/
def placeOf (es : List En) (e : En) : Int := if mayPut es e then (es.length : Int) + 1 else 0
theorem Tb.widen {D E : Nat → Prop} {w : World} {p q : Nat} {es : List En} (h : Tb D w p q es) (hd : ∀ k, D k → E k) (hl : ∀ k, E k → k < w.heap.size) : Tb E w p q es := by
  obtain ⟨⟨A, F, rv, h1, h2, h3, hA, hF, h4⟩, ⟨hp, hq⟩, -⟩ := h
  exact ⟨⟨A, F, rv, h1, h2, h3, fun k x => hd k (hA k x), fun k x => hd k (hF k x), h4⟩, ⟨hd p hp, hd q hq⟩, hl⟩
/-- Put of any entry. -/
theorem put_any {D : Nat → Prop} {w : World} {p q : Nat} {es : List En} (h : Tb D w p q es) (hl : es.length ≤ 100000) (hr : Rise es) (e : En) (mo : Option Addr) (m mc : Nat) (hnn : e.ms.length = m) (hln : m ≤ 1000000) (hw : IntsR w mo e.ms) (hc : wf64 e.client) :
    Calls Try.prog 12 #[.pointer (some ⟨p, 0, none⟩), .agg #[.int .i64 e.kind, .int .i64 e.client, .int .i64 e.seq, .string e.text, .slice mo m mc, .int .i64 e.dest]] w fun x w' => x = .returned (.tuple #[.int .i64 (placeOf es e), .bool (decide (mayPut es e))]) ∧ Tb (News D w w') w' p q (putOf es e) ∧ Kp D w w' := by
  by_cases hm : mayPut es e
  · unfold placeOf putOf
    rw [if_pos hm, if_pos hm, decide_eq_true hm]
    exact put_ok h hl hr e mo m mc hnn hln hw hc hm
  · unfold placeOf putOf
    rw [if_neg hm, if_neg hm, decide_eq_false hm]
    refine (put_no h (by omega) hr e mo m mc hc hm).mono ?_
    rintro x w' ⟨rfl, hb⟩
    exact ⟨rfl, (h.below hb).widen (fun k x => Or.inl x) (fun k x => by rcases x with x | x; · exact Nat.lt_of_lt_of_le (h.lt k x) hb.size
                                                                        · exact x.2), Kp.of_below hb⟩
end Go.Proofs.Ytkalpdfigdaalaa
