/- Clocks, the program's and the document's own: contracts. -/
import Derived.Test.YtfmldmooflolaaaQBase
namespace Go.Proofs.Ytfmldmooflolaaa
open Go.RowKit

/-- a clock at block p, with so many ticks left. -/
def Ck (t : TypeId) (w : World) (p : Nat) (n : Int) : Prop := w.heap[p]? = some (.cells #[.int .i64 n] t (0, 0))
theorem Ck.below {t : TypeId} {w w' : World} {p : Nat} {n : Int} (h : Ck t w p n) (hb : Below w.heap.size w w') : Ck t w' p n := Below.stay hb h
theorem Ck.lt {t : TypeId} {w : World} {p : Nat} {n : Int} (h : Ck t w p n) : p < w.heap.size := heap_lt h
theorem Ck.cell {t : TypeId} {w : World} {p : Nat} {n : Int} (h : Ck t w p n) : w.cell? ⟨p, 0, none⟩ = some (.int .i64 n) := (cell_of_block h).trans rfl
theorem Ck.free {t : TypeId} {w : World} {p : Nat} {n : Int} (h : Ck t w p n) : w.frozen? ⟨p, 0, none⟩ = false := free_of_block h
theorem Ck.set {t : TypeId} {w : World} {p : Nat} {n : Int} (h : Ck t w p n) (m : Int) : Ck t (w.setCell ⟨p, 0, none⟩ (.int .i64 m)) p m := setCell_block h
theorem Ck.other {t : TypeId} {w w' : World} {p q : Nat} {n : Int} (h : Ck t w p n) (hk : Kp (fun k => k = q) w w') (hn : p ≠ q) : Ck t w' p n := hk.block h hn
theorem kp_set (w : World) (p : Nat) (u : Value) : Kp (fun k => k = p) w (w.setCell ⟨p, 0, none⟩ u) := Kp.setCell (D := fun k => k = p) (p := ⟨p, 0, none⟩) (Kp.refl _ w) rfl u
theorem kp_far {p : Nat} {a b c : World} (h : Kp (fun k => k = p) a b) (k : Kp (fun k => k = p) b c) : Kp (fun k => k = p) a c := h.trans k (fun _ _ x => x)

theorem rem_ten (n : Int) : (n.tmod 10 < 0 ∧ n.tmod 10 + 10 = n % 10 ∧ -10 ≤ n.tmod 10) ∨ (¬ n.tmod 10 < 0 ∧ n.tmod 10 = n % 10) := by
  have h := @Int.tmod_eq_emod n 10
  have hb := Int.emod_nonneg n (show (10 : Int) ≠ 0 by omega)
  have hl := Int.emod_lt_of_pos n (show (0 : Int) < 10 by omega)
  split at h
  · right; omega
  · left; omega
theorem mod_ten (n : Int) : 0 ≤ n % 10 ∧ n % 10 < 10 := by omega

theorem more_any (d : Int) (w : World) : Calls Try.prog 16 #[.int .i64 d] w fun e w' => e = .returned (.int .i64 (d % 10)) ∧ w' = w := by
  rcases rem_ten d with ⟨h1, h2, h3⟩ | ⟨h1, h2⟩
  · have HE := hide h2
    clear h2
    go_enter Try.func16, Try.ntmps16
    go_wp2
    go_ret
    exact ⟨ret_int (unhide HE), rfl⟩
  · have HE := hide h2
    clear h2
    go_enter Try.func16, Try.ntmps16
    go_wp2
    go_ret
    exact ⟨ret_int (unhide HE), rfl⟩
theorem wait_any (d : Int) (w : World) : Calls Try.prog 14 #[.int .i64 d] w fun e w' => e = .returned (.int .i64 (10 + d % 10)) ∧ w' = w := by
  have hb := mod_ten d
  rcases rem_ten d with ⟨h1, h2, h3⟩ | ⟨h1, h2⟩
  · obtain ⟨m, hm⟩ : ∃ m, d.tmod 10 + 10 = m := ⟨_, rfl⟩
    rw [← h2, hm]
    rw [← h2, hm] at hb
    clear h2
    go_enter Try.func14, Try.ntmps14
    go_wp2
    go_ret
    exact ⟨rfl, rfl⟩
  · obtain ⟨m, hm⟩ : ∃ m, d.tmod 10 = m := ⟨_, rfl⟩
    rw [← h2, hm]
    rw [← h2, hm] at hb
    rw [hm] at h1
    clear h2
    go_enter Try.func14, Try.ntmps14
    go_wp2
    go_ret
    exact ⟨rfl, rfl⟩
theorem begin_any {p : Nat} {n : Int} (m : Int) (w : World) (h : Ck 40 w p n) :
    Calls Try.prog 15 #[.pointer (some ⟨p, 0, none⟩), .int .i64 m] w fun e w' => e = .returned (.tuple #[]) ∧ Ck 40 w' p m ∧ Kp (fun k => k = p) w w' := by
  have c0 := h.cell
  have f0 := h.free
  have H := hide h
  clear h
  go_enter Try.func15, Try.ntmps15
  go_wp2
  go_end0
  exact ⟨rfl, (unhide H).set m, kp_set _ _ _⟩
theorem down_any {p : Nat} {n : Int} (w : World) (h : Ck 40 w p n) (h1 : 1 ≤ n) (h2 : n ≤ 19) :
    Calls Try.prog 17 #[.pointer (some ⟨p, 0, none⟩)] w fun e w' => e = .returned (.bool (decide (n - 1 ≤ 0))) ∧ Ck 40 w' p (n - 1) ∧ Kp (fun k => k = p) w w' := by
  have c0 := h.cell
  have f0 := h.free
  have c1 := (h.set (n - 1)).cell
  have H := hide h
  clear h
  go_enter Try.func17, Try.ntmps17
  go_wp2
  go_ret
  exact ⟨rfl, (unhide H).set _, kp_set _ _ _⟩
theorem left_any {p : Nat} {n : Int} (w : World) (h : Ck 40 w p n) :
    Calls Try.prog 13 #[.pointer (some ⟨p, 0, none⟩)] w fun e w' => e = .returned (.int .i64 n) ∧ w' = w := by
  have c0 := h.cell
  clear h
  go_enter Try.func13, Try.ntmps13
  go_wp2
  go_ret
  exact ⟨rfl, rfl⟩
theorem reset_any {p : Nat} {n : Int} (d : Int) (w : World) (h : Ck 40 w p n) :
    Calls Try.prog 9 #[.pointer (some ⟨p, 0, none⟩), .int .i64 d] w fun e w' => e = .returned (.tuple #[]) ∧ Ck 40 w' p (10 + d % 10) ∧ Kp (fun k => k = p) w w' := by
  have MO := hide (fun Y => more_any d Y)
  have hb := mod_ten d
  obtain ⟨m, hm⟩ : ∃ m, d % 10 = m := ⟨_, rfl⟩
  rw [hm] at MO hb
  rw [hm]
  have BE := hide (fun Y (h' : Ck 40 Y p n) => begin_any (10 + m) Y h')
  have H := hide (fun Y (hY : Below w.heap.size w Y) => h.below hY)
  have BD := hide (Below.refl w.heap.size w)
  have wr1 : IntKind.i64.wrap (10 + m) = 10 + m := IntWalk.i64_in _ (by omega)
  clear h hm
  go_enter Try.func9, Try.ntmps9
  go_region_with (first
    | (go_at_call 16; refine (unhide MO _).mono ?_; rintro e w1 ⟨rfl, rfl⟩)
    | (go_at_call 15; refine (unhide BE _ (unhide H _ (by first | exact (unhide BD).drew | exact (unhide BD)))).mono ?_; rintro e w2 ⟨rfl, c2, k2⟩; have K2 : Hid (Ck 40 w2 p (10 + m) ∧ Kp (fun k => k = p) w w2) := ⟨c2, kp_far ((Kp.refl _ w).drew) k2⟩; clear c2 k2))
  all_goals go_wp2
  all_goals go_end0
  all_goals exact ⟨rfl, unhide K2⟩
theorem qnew_any (d : Int) (w : World) :
    Calls Try.prog 7 #[.int .i64 d] w fun e w' => e = .returned (.pointer (some ⟨w.heap.size, 0, none⟩)) ∧ Ck 40 w' w.heap.size (10 + d % 10) ∧ Below w.heap.size w w' := by
  obtain ⟨W, hW⟩ : ∃ W, w.alloc (.cells #[.int .i64 0] 40) = W := ⟨_, rfl⟩
  have x0 : Ck 40 W w.heap.size 0 := by rw [← hW]; exact box_at _ _
  have bW : Below w.heap.size w W := by rw [← hW]; exact (Below.refl _ w).alloc (Nat.le_refl _) _
  have RE := hide (reset_any d W x0)
  have HW := hide hW
  have BW := hide bW
  clear x0 bW hW
  go_enter Try.func7, Try.ntmps7
  go_wp2_with fail
  rw [unhide HW]
  refine (unhide RE).mono ?_
  rintro e w1 ⟨rfl, h1, k1⟩
  have R := hide (And.intro h1 ((unhide BW).trans (k1.below (fun k hk => by rw [hk]; exact Nat.le_refl _) (unhide BW).size)))
  clear h1 k1 HW BW RE
  go_wp2
  go_ret
  exact ⟨rfl, unhide R⟩
/-- what a tick leaves. -/
def tickN (n d : Int) : Int := if n ≤ 1 then 10 + d % 10 else n - 1
theorem tick_any {p : Nat} {n : Int} (d : Int) (w : World) (h : Ck 40 w p n) (h1 : 1 ≤ n) (h2 : n ≤ 19) :
    Calls Try.prog 11 #[.pointer (some ⟨p, 0, none⟩), .int .i64 d] w fun e w' => e = .returned (.bool (decide (n ≤ 1))) ∧ Ck 40 w' p (tickN n d) ∧ Kp (fun k => k = p) w w' := by
  have DO := hide (down_any w h h1 h2)
  unfold tickN
  by_cases hn : n ≤ 1
  · rw [show decide (n - 1 ≤ 0) = true by rw [decide_eq_true_eq]; omega] at DO
    rw [show decide (n ≤ 1) = true by rw [decide_eq_true_eq]; exact hn, if_pos hn]
    clear h h1 h2 hn
    go_enter Try.func11, Try.ntmps11
    go_wp2_with fail
    refine (unhide DO).mono ?_
    rintro e w1 ⟨rfl, c1, k1⟩
    have RE := hide (reset_any d w1 c1)
    have K1 := hide k1
    clear c1 k1 DO
    go_wp2_with fail
    refine (unhide RE).mono ?_
    rintro e w2 ⟨rfl, c2, k2⟩
    have R := hide (And.intro c2 (kp_far (unhide K1) k2))
    clear c2 k2 RE
    go_wp2
    go_ret
    exact ⟨rfl, unhide R⟩
  · rw [show decide (n - 1 ≤ 0) = false by rw [decide_eq_false_iff_not]; omega] at DO
    rw [show decide (n ≤ 1) = false by rw [decide_eq_false_iff_not]; exact hn, if_neg hn]
    clear h h1 h2 hn
    go_enter Try.func11, Try.ntmps11
    go_wp2_with fail
    refine (unhide DO).mono ?_
    rintro e w1 ⟨rfl, c1, k1⟩
    have R := hide (And.intro c1 k1)
    clear c1 k1 DO
    go_wp2
    go_ret
    exact ⟨rfl, unhide R⟩
theorem qknown_any (w : World) : Calls Try.prog 6 #[] w fun e w' => e = .returned (.bool true) ∧ Below w.heap.size w w' := by
  have NE := hide (qnew_any 3 w)
  go_enter Try.func6, Try.ntmps6
  go_wp2_with fail
  refine (unhide NE).mono ?_
  rintro e w1 ⟨rfl, h1, b1⟩
  have LE := hide (left_any w1 h1)
  rw [show (10 : Int) + 3 % 10 = 13 from rfl] at LE
  have B1 := hide b1
  clear h1 b1 NE
  go_wp2_with fail
  refine (unhide LE).mono ?_
  rintro e w2 ⟨rfl, rfl⟩
  go_wp2
  go_ret
  exact ⟨rfl, unhide B1⟩
end Go.Proofs.Ytfmldmooflolaaa
