/- The document's own log: Put: a contract. -/
import Derived.Test.YtmgdkbpbmngibaaHXApp
import Derived.Test.YtmgdkbpbmngibaaHPut
import Derived.Test.YtmgdkbpbmngibaaHKnown
import Derived.Deep.RegionHeld3
import Derived.Deep.DrawnRows
namespace Go.Proofs.Ytmgdkbpbmngibaa
open Go.RowKit Go.Maps
attribute [local go_sem ↓] Go.wp_at_zero Go.wp_at_succ

theorem climbs_no {a t : Int} {ts : List Int} (h : t < 1 ∨ t < a) : climbsOf a (t :: ts) = false := by
  unfold climbsOf; rw [decide_eq_false (by omega)]; rfl
theorem climbs_yes {a t : Int} {ts : List Int} (h1 : ¬ t < 1) (h2 : ¬ t < a) : climbsOf a (t :: ts) = climbsOf t ts := by
  rw [climbsOf, decide_eq_true (by omega), Bool.true_and]
/-- what stands behind an index when one entry has been placed there. -/
theorem placed_ge {b : Int} {rk : List Rw} {j t : Int} {e : En} (hb : b < j) (hj : j ≤ b + (rk.length : Int) + 1) (ht : 1 ≤ t) : j ≤ b + ((placed b rk j t e).length : Int) := by
  unfold placed
  split
  · rename_i h
    by_cases q : j ≤ b + (rk.length : Int)
    · exact q
    · have : termOf b rk j = 0 := by unfold termOf; rw [rowAt_none (by omega)]
      omega
  · rw [List.length_append, List.length_take, List.length_singleton]
    unfold aheadOf
    rw [if_neg (by omega)]
    omega
theorem climbs_pos {a : Int} {ts : List Int} (h : climbsOf a ts = true) : ∀ t ∈ ts, 1 ≤ t := by
  induction ts generalizing a with
  | nil => intro t ht; simp at ht
  | cons y ys ih =>
    intro t ht
    rw [climbsOf, Bool.and_eq_true, decide_eq_true_eq] at h
    rcases List.mem_cons.1 ht with rfl | ht
    · omega
    · exact ih h.2 t ht

/-- the state behind both stores. -/
theorem x_put {base : Nat} {D : Nat → Prop} {w y1 z1 z2 : World} {p : Nat} {b : Int} {tv ev v1 v2 : Value} {TS : List Int} {ES : List En} {rk : List Rw} (hk : Kp D w y1) (hp : D p) (hDl : ∀ k, D k → base ≤ k) (hlt : ∀ k, D k → k < w.heap.size) (hbase : base ≤ w.heap.size)
    (p1 : y1.heap[p]? = some (.cells #[.int .i64 b, tv, ev] 32 (0, 0))) (b1 : Below y1.heap.size y1 z1) (i1 : Ir y1.heap.size z1 v1 TS)
    (b2 : Below (z1.setCell ⟨p, 1, none⟩ v1).heap.size (z1.setCell ⟨p, 1, none⟩ v1) z2) (x2 : XRow base z2 v2 ES) (a2 : ∀ k, v2.ownBlock = some k → (z1.setCell ⟨p, 1, none⟩ v1).heap.size ≤ k) (h1 : rk.map (·.1) = TS) (h2 : rk.map (·.2) = ES) :
    Xs base (News D w (z2.setCell ⟨p, 2, none⟩ v2)) (z2.setCell ⟨p, 2, none⟩ v2) p b rk ∧ Kp D w (z2.setCell ⟨p, 2, none⟩ v2) := by
  have q1 : z1.heap[p]? = some (.cells #[.int .i64 b, tv, ev] 32 (0, 0)) := Below.stay b1 p1
  obtain ⟨Y, hY⟩ : ∃ Y, z1.setCell ⟨p, 1, none⟩ v1 = Y := ⟨_, rfl⟩
  have q2 : Y.heap[p]? = some (.cells #[.int .i64 b, v1, ev] 32 (0, 0)) := by rw [← hY]; exact setCell_block q1
  have sY : Y.heap.size = z1.heap.size := by rw [← hY]; simp [World.setCell]
  have kY : Kp D w Y := by rw [← hY]; exact (hk.far b1).setCell (p := ⟨p, 1, none⟩) hp v1
  rw [hY] at b2 a2
  have q3 : z2.heap[p]? = some (.cells #[.int .i64 b, v1, ev] 32 (0, 0)) := Below.stay b2 q2
  have iY : Ir y1.heap.size Y v1 TS := i1.other (fun k hk' => by rw [← hY]; exact Below.heap_setCell _ _ _ k hk') q1 (by decide)
  have i2 : Ir y1.heap.size z2 v1 TS := iY.below b2
  have s2 : (z2.setCell ⟨p, 2, none⟩ v2).heap.size = z2.heap.size := by simp [World.setCell]
  have hw := hk.size
  have hs1 := b1.size
  have hs2 := b2.size
  have hk2 : Kp D w (z2.setCell ⟨p, 2, none⟩ v2) := (kY.far b2).setCell (p := ⟨p, 2, none⟩) hp v2
  refine ⟨⟨⟨v1, v2, setCell_block q3, ?_, ?_, fun k hk' => ?_, fun k hk' => ?_⟩, Or.inl hp, fun k hk' => ?_, fun k hk' => ?_⟩, hk2⟩
  · rw [h1]; exact (i2.zero).other (fun k hk' => Below.heap_setCell _ _ _ k hk') q3 (by decide)
  · rw [h2]
    refine x2.keep (fun k hk' => Below.heap_setCell _ _ _ k (fun e => ?_)) ((Below.refl _ z2).setCell (p := ⟨p, 2, none⟩) (hDl p hp) v2)
    obtain ⟨_, _, cur, fr, hc⟩ := x2.tag k hk'
    rw [e, q3] at hc; cases hc
  · have := i2.lt k hk'
    exact Or.inr ⟨by omega, by rw [s2]; exact this.2⟩
  · have := a2 k hk'
    exact Or.inr ⟨by omega, by rw [s2]; exact (x2.tag k hk').2.1⟩
  · rcases hk' with y | y
    · rw [s2]; have := hlt k y; omega
    · exact y.2
  · rcases hk' with y | y
    · exact hDl k y
    · omega
theorem empty_intsB (base : Nat) (w : World) (hb : base ≤ w.heap.size) : Ir base (w.alloc (.cells #[] 3)) (.slice (some ⟨w.heap.size, 0, none⟩) 0 0) [] :=
  ⟨rfl, Or.inr ⟨w.heap.size, 0, #[], rfl, hb, heap_alloc_new _ _, by simp [maxLen, i64s]⟩⟩
theorem one_int (w : World) (t : Int) : IntsR (w.alloc (.cells #[.int .i64 t] 3)) (some ⟨w.heap.size, 0, none⟩) [t] := (ints_lit w [t] _ rfl).ints
theorem two_sizes (w : World) (o : Obj) : (w.alloc o).heap.size = w.heap.size + 1 := by simp
/-- slices in a world that has some more blocks. -/
theorem IntsR.more1 {w : World} {ao : Option Addr} {ys : List Int} (h : IntsR w ao ys) (o : Obj) : IntsR (w.alloc o) ao ys := h.below ((Below.refl _ w).alloc (Nat.le_refl _) o)
theorem bl1 (w : World) (o : Obj) : Below w.heap.size w (w.drew.alloc o) := (Below.refl _ w).drew.alloc (Nat.le_refl _) o
theorem bl2 (w : World) (o o' : Obj) : Below w.heap.size w ((w.drew.alloc o).alloc o') := (bl1 w o).alloc (bl1 w o).size o'
theorem ei_three (w : World) (o : Obj) : Ir w.heap.size ((w.alloc o).alloc (.cells #[] 3)) (.slice (some ⟨w.heap.size + 1, 0, none⟩) 0 0) [] := by
  have := empty_intsB w.heap.size (w.alloc o) (by rw [two_sizes]; exact Nat.le_succ _)
  rwa [two_sizes] at this
theorem ee_three (base : Nat) (w : World) (o : Obj) (hb : base ≤ w.heap.size) : XRow base ((w.alloc o).alloc (.cells #[] 60)) (.slice (some ⟨w.heap.size + 1, 0, none⟩) 0 0) [] := by
  have := empty_ents base (w.alloc o) (by rw [two_sizes]; exact Nat.le_succ_of_le hb)
  rwa [two_sizes] at this
theorem bd1 (w : World) (o : Obj) : Below w.heap.size w (w.alloc o).drew := ((Below.refl _ w).alloc (Nat.le_refl _) o).drew
theorem bd2 (w : World) (o o' : Obj) : Below w.heap.size w ((w.alloc o).alloc o').drew := (((Below.refl _ w).alloc (Nat.le_refl _) o).alloc (by rw [two_sizes]; exact Nat.le_succ _) o').drew
theorem at_two (w : World) (o o' : Obj) : ((w.alloc o).alloc o').heap[w.heap.size]? = some o ∧ ((w.alloc o).alloc o').heap[w.heap.size + 1]? = some o' := by
  refine ⟨(Below.heap_alloc _ _ _ (by simp)).trans (box_at _ _), ?_⟩
  have := box_at (w.alloc o) o'
  rwa [two_sizes] at this
theorem XRow.belowX {base : Nat} {w w' : World} {v : Value} {es : List En} (h : XRow base w v es) (hb : Below w.heap.size w w') (hs : base ≤ w.heap.size) : XRow base w' v es := h.keep (fun k hk => hb.block k (h.tag k hk).2.1) (hb.mono hs)
theorem bz_grown {y W z : World} {n : Nat} (hb : Below y.heap.size y W) (hg : W.grownBy z (Value.slice (some ⟨n, 0, none⟩) 0 0).ownBlock) (hn : y.heap.size ≤ n) : Below y.heap.size y z := hb.grown hg hb.size (fun c hc => by simp [Value.ownBlock] at hc; omega)
theorem box_int {w : World} {n : Nat} {t : Int} {fr : Nat × Nat} (h : w.heap[n]? = some (.cells #[.int .i64 t] 3 fr)) : IntsR w (some ⟨n, 0, none⟩) [t] := fun i hi => by
  have hi0 : i = 0 := by simp at hi; omega
  subst hi0
  exact ⟨_, rfl, by rw [Addr.add_lit]; exact (cell_of_block h).trans rfl⟩
end Go.Proofs.Ytmgdkbpbmngibaa
