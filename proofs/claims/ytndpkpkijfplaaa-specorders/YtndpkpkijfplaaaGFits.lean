/- Fits, ask, within: contracts. -/
import Derived.Test.YtndpkpkijfplaaaGCheck
namespace Go.Proofs.Ytndpkpkijfplaaa
open Go.RowKit Go.Maps
attribute [local go_sem ↓] Go.wp_at_zero Go.wp_at_succ

/-- the shorter one is a front of the other one. -/
def fitsOf (es fs : List En) : Bool := sameEs (es.take (min es.length fs.length)) (fs.take (min es.length fs.length))
theorem fitsOf_iff (es fs : List En) : fitsOf es fs = true ↔ es.take fs.length = fs.take es.length := by
  unfold fitsOf
  rw [sameEs_iff]
  rcases Nat.le_total es.length fs.length with h | h
  · rw [Nat.min_eq_left h, List.take_of_length_le (Nat.le_refl _), List.take_of_length_le h]
  · rw [Nat.min_eq_right h, List.take_of_length_le (l := fs) (Nat.le_refl _), List.take_of_length_le (l := fs) h]
theorem EsR.take {F : Nat → Prop} {w : World} {ao : Option Addr} {es : List En} (h : EsR F w ao es) (k : Nat) : EsR F w ao (es.take k) := fun i e hi => by
  rw [List.getElem?_take] at hi
  split at hi
  · exact h i e hi
  · cases hi
set_option maxRecDepth 20000 in
set_option maxHeartbeats 2000000 in
theorem fits_any {F G : Nat → Prop} (a b : Option Addr) (n m ca cb : Nat) (es fs : List En) (hx : es.length = n) (hy : fs.length = m) (hl : n ≤ 1000000) (hl2 : m ≤ 1000000) (h1 : n ≤ ca) (h2 : m ≤ cb) (w : World) (ha : EsR F w a es) (hb : EsR G w b fs) :
    Calls Try.prog 14 #[.slice a n ca, .slice b m cb] w fun e w' => e = .returned (.bool (fitsOf es fs)) ∧ Below w.heap.size w w' := by
  obtain ⟨k, hk⟩ : ∃ k, min n m = k := ⟨_, rfl⟩
  have kn : k ≤ n := by omega
  have km : k ≤ m := by omega
  have q0 : (0 : Int) ≤ (k : Int) := by omega
  have q1 : (k : Int) ≤ (ca : Int) := by omega
  have q2 : (k : Int) ≤ (cb : Int) := by omega
  have hf : fitsOf es fs = sameEs (es.take k) (fs.take k) := by unfold fitsOf; rw [hx, hy, hk]
  rw [hf]
  have EF := hide (equalFunc_any (F := F) (G := G) a b k k ca cb (es.take k) (fs.take k) (by rw [List.length_take]; omega) (by rw [List.length_take]; omega) (by omega) w.drew ((ha.take k).below ((Below.refl _ w).drew)) ((hb.take k).below ((Below.refl _ w).drew)))
  clear ha hb hf hx hy
  by_cases hmn : m < n
  · obtain rfl : k = m := by omega
    clear hk
    go_enter Try.func14, Try.ntmps14
    go_upto_region 2 with fail
    go_region_held3 (fun _ => True) (trivial)
      (first
      | (go_at_call 24
         refine (unhide EF).mono ?_
         rintro z w1 ⟨rfl, b1⟩
         have B1 := hide (below_far ((Below.refl _ w).drew) b1)
         clear b1)
      | fail)
    all_goals go_wp2
    all_goals go_ret
    all_goals exact ⟨rfl, unhide B1⟩
  · obtain rfl : k = n := by omega
    clear hk
    go_enter Try.func14, Try.ntmps14
    go_upto_region 2 with fail
    go_region_held3 (fun _ => True) (trivial)
      (first
      | (go_at_call 24
         refine (unhide EF).mono ?_
         rintro z w1 ⟨rfl, b1⟩
         have B1 := hide (below_far ((Below.refl _ w).drew) b1)
         clear b1)
      | fail)
    all_goals go_wp2
    all_goals go_ret
    all_goals exact ⟨rfl, unhide B1⟩
end Go.Proofs.Ytndpkpkijfplaaa
