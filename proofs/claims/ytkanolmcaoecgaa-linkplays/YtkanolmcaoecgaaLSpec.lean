/- What Take answers, by the sets of numbers that were taken. -/
import Derived.Test.YtkanolmcaoecgaaLAny
namespace Go.Proofs.Ytkanolmcaoecgaa
open Go.RowKit Go.Maps

theorem new_at (self life : Int) (w : World) : Calls Try.prog 10 #[.int .i64 self, .int .i64 life] w fun e w' => (∃ p s q, e = .returned (.pointer (some ⟨p, 0, none⟩)) ∧ Lk w' p s q life (fun _ => 0) (fun _ => Hd.none) 0 0 ∧ w.heap.size ≤ p ∧ w.heap.size ≤ s ∧ w.heap.size ≤ q) ∧ Below w.heap.size w w' :=
  (new_any self life w).mono fun _ _ ⟨he, hl, hb, _⟩ => ⟨⟨_, _, _, he, hl, by omega, by omega, by omega⟩, hb⟩
theorem upH_same (f : Int → Hd) (x : Int) (v : Hd) : upH f x v x = v := if_pos rfl
theorem upH_other (f : Int → Hd) {x y : Int} (v : Hd) (h : y ≠ x) : upH f x v y = f y := if_neg h
theorem takeE_arg (g : Hd) {l n : Int} (h : l < 1 ∨ n < 1) : takeE g l n = 1 := if_pos h
theorem takeE_stale (g : Hd) {l n : Int} (hl : 1 ≤ l) (hn : 1 ≤ n) (h : l < (g.life : Int)) : takeE g l n = 19 := by
  unfold takeE; rw [if_neg (by omega), if_pos h]
theorem takeE_newer (g : Hd) {l n : Int} (hn : 1 ≤ n) (h : (g.life : Int) < l) : takeE g l n = 0 := by
  unfold takeE; rw [if_neg (by omega), if_neg (by omega), if_neg (by omega)]
theorem takeE_known {g : Hd} {S : Nat → Bool} (hs : Sees g S) {l : Int} {n : Nat} (hl : 1 ≤ l) (hn : 1 ≤ n) (h : l = (g.life : Int)) (hk : n + 256 ≤ g.top ∨ S n = true) : takeE g l (n : Int) = 7 := by
  have hkn : g.knows ((n : Int).toNat) = true := by
    rw [Int.toNat_natCast, sees_knows hs]
    rcases hk with h | h
    · rw [decide_eq_true h]; rfl
    · rw [h, Bool.or_true]
  unfold takeE
  rw [if_neg (by omega), if_neg (by omega), if_pos ⟨h, hkn⟩]
theorem takeE_free {g : Hd} {S : Nat → Bool} (hs : Sees g S) {l : Int} {n : Nat} (hl : 1 ≤ l) (hn : 1 ≤ n) (h : l = (g.life : Int)) (h1 : ¬ n + 256 ≤ g.top) (h2 : S n = false) : takeE g l (n : Int) = 0 := by
  have hkn : g.knows ((n : Int).toNat) = false := by
    rw [Int.toNat_natCast, sees_knows hs, decide_eq_false h1, h2]; rfl
  unfold takeE
  rw [if_neg (by omega), if_neg (by omega), if_neg (fun x => by rw [hkn] at x; cases x.2)]
end Go.Proofs.Ytkanolmcaoecgaa
