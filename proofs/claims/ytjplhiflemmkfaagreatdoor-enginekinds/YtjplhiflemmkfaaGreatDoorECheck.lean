/- core.Check: a contract. slices.Clone of numbers: a contract. Boxes in memory, what is kept. Clocks, the program's and the document's own: contracts. -/
import Derived.Test.YtjplhiflemmkfaaGreatDoorKRow
import Derived.Test.YtjplhiflemmkfaaGreatDoorCutsG
import Derived.Laws.AppendOwnNone
namespace Go.Proofs.YtjplhiflemmkfaaGreatDoor
open Go.RowKit

/-- what core.Check answers. -/
def coreCheck (id : Int) (ms : List Int) (base : Int) : Nat := if (0 ≤ id ∧ id < 9) ∧ 0 ≤ base ∧ base ≤ 64 then checkOf [] ms else 1

set_option maxRecDepth 20000 in
set_option maxHeartbeats 1000000 in
theorem coreCheck_any (id base : Int) (an : Option Addr) (nn cn : Nat) (ms : List Int) (hn : ms.length = nn) (hl : nn ≤ 1000000000) (w : World) (hw : IntsR w an ms) :
    Calls Tryz.prog 49 #[.int .i64 id, .slice an nn cn, .int .i64 base] w fun e w' => e = .returned (.int .i64 ((coreCheck id ms base : Nat) : Int)) ∧ Below w.heap.size w w' := by
  have CN := hide (isNode_any id w)
  have CK := hide (check_any none an 0 nn 0 cn [] ms rfl hn (by omega) hl w (fun i hi => by simp at hi) hw)
  obtain ⟨c, hc⟩ : ∃ c, checkOf [] ms = c := ⟨_, rfl⟩
  rw [hc] at CK
  unfold coreCheck
  rw [hc]
  clear hc hw hn
  by_cases h0 : 0 ≤ id ∧ id < 9
  · rw [decide_eq_true h0] at CN
    by_cases h1 : base < 0
    · rw [if_neg (by omega)]
      clear h0
      go_enter Tryz.func49, Tryz.ntmps49
      go_wp2_with fail
      refine (unhide CN).mono ?_
      rintro e w1 ⟨rfl, rfl⟩
      go_wp2
      go_ret
      exact ⟨rfl, Below.refl _ _⟩
    · by_cases h2 : 64 < base
      · rw [if_neg (by omega)]
        clear h0
        go_enter Tryz.func49, Tryz.ntmps49
        go_wp2_with fail
        refine (unhide CN).mono ?_
        rintro e w1 ⟨rfl, rfl⟩
        go_wp2
        go_ret
        exact ⟨rfl, Below.refl _ _⟩
      · rw [if_pos ⟨h0, by omega, by omega⟩]
        clear h0
        go_enter Tryz.func49, Tryz.ntmps49
        go_wp2_with fail
        refine (unhide CN).mono ?_
        rintro e w1 ⟨rfl, rfl⟩
        go_wp2_with fail
        refine (unhide CK).mono ?_
        rintro e w2 ⟨rfl, b2⟩
        go_wp2
        go_ret
        exact ⟨rfl, b2⟩
  · rw [decide_eq_false h0] at CN
    rw [if_neg (fun h => h0 h.1)]
    clear h0
    go_enter Tryz.func49, Tryz.ntmps49
    go_wp2_with fail
    refine (unhide CN).mono ?_
    rintro e w1 ⟨rfl, rfl⟩
    go_wp2
    go_ret
    exact ⟨rfl, Below.refl _ _⟩
end Go.Proofs.YtjplhiflemmkfaaGreatDoor
namespace Go.Proofs.YtjplhiflemmkfaaGreatDoor
open Go.RowKit

theorem empty_ints (w : World) : Ir w.heap.size (w.alloc (.cells #[] 3)) (.slice (some ⟨w.heap.size, 0, none⟩) 0 0) [] := by
  refine ⟨rfl, Or.inr ⟨w.heap.size, 0, #[], rfl, Nat.le_refl _, heap_alloc_new _ _, ?_⟩⟩
  simp [maxLen, i64s]
set_option maxRecDepth 20000 in
set_option maxHeartbeats 1000000 in
theorem clone_any (ao : Option Addr) (n c : Nat) (ys : List Int) (hn : ys.length = n) (hl : n ≤ 1000000) (w : World) (h : IntsR w ao ys) :
    Calls Tryz.prog 50 #[.slice ao n c] w fun e w' => ∃ v, e = .returned v ∧ Ir w.heap.size w' v ys ∧ Below w.heap.size w w' := by
  cases ao with
  | none =>
    obtain rfl := h.none_nil
    obtain rfl : n = 0 := hn.symm
    clear h
    have hq := @Lib.run_eql_slice_nil Tryz.prog
    go_enter Tryz.func50, Tryz.ntmps50
    go_wp2
    go_ret
    exact ⟨_, rfl, Ir.nil _ _, Below.refl _ _⟩
  | some a =>
    obtain ⟨W1, hW1⟩ : ∃ W1, w.alloc (.cells #[] 3) = W1 := ⟨_, rfl⟩
    have c1 : Below w.heap.size w W1 := by rw [← hW1]; exact (Below.refl _ w).alloc (Nat.le_refl _) _
    have o1 : Ir w.heap.size W1 (.slice (some ⟨w.heap.size, 0, none⟩) 0 0) [] := by rw [← hW1]; exact empty_ints w
    have C1 := hide c1
    have O1 := hide o1
    have HW1 := hide hW1
    have H := hide (h.below c1)
    have EN := hide hn
    have sz := c1.size
    have hq := @Lib.run_eql_slice_nil Tryz.prog
    clear c1 o1 hW1 h hn
    go_enter Tryz.func50, Tryz.ntmps50
    go_wp2_with (at_builtin; rw [unhide HW1]; refine wpList_app rfl (.tmp 5) (.tmp 6) rfl w.heap.size _ [] rfl (unhide O1) (some a) n c ys rfl (unhide EN) (unhide H) (by simp; omega) sz ?_)
    intro v' w' own' g'
    have OWN := hide own'
    have B' := hide ((unhide O1).grown g' (unhide C1) sz)
    clear own' g'
    go_wp2
    go_ret
    exact ⟨_, rfl, by simpa using unhide OWN, unhide B'⟩
end Go.Proofs.YtjplhiflemmkfaaGreatDoor
namespace Go.Proofs.YtjplhiflemmkfaaGreatDoor
open Go.RowKit Go.Maps

theorem below_far {w w1 w2 : World} (h : Below w.heap.size w w1) (k : Below w1.heap.size w1 w2) : Below w.heap.size w w2 := h.trans (k.mono h.size)
/-! ### all but some blocks are kept -/
def Kp (D : Nat → Prop) (w w' : World) : Prop := Kept 0 D w w'
theorem Kp.refl (D : Nat → Prop) (w : World) : Kp D w w := Kept.refl _ _ _
theorem Kp.of_below {D : Nat → Prop} {w w' : World} (h : Below w.heap.size w w') : Kp D w w' := Kept.of_below h (Nat.zero_le _)
theorem Kp.size {D : Nat → Prop} {w w' : World} (h : Kp D w w') : w.heap.size ≤ w'.heap.size := Kept.size h
theorem Kp.trans {D E : Nat → Prop} {a b c : World} (h : Kp D a b) (k : Kp E b c) (he : ∀ j, j < a.heap.size → E j → D j) : Kp D a c := Kept.trans h k he
theorem Kp.mono {D E : Nat → Prop} {a b : World} (h : Kp D a b) (he : ∀ j, j < a.heap.size → D j → E j) : Kp E a b := Kept.mono h (Nat.le_refl _) he
theorem Kp.far {D : Nat → Prop} {a b c : World} (h : Kp D a b) (k : Below b.heap.size b c) : Kp D a c := h.trans (E := fun _ => False) (Kp.of_below k) (fun _ _ x => x.elim)
theorem Kp.block {D : Nat → Prop} {w w' : World} (h : Kp D w w') {k : Nat} {o : Obj} (hk : w.heap[k]? = some o) (hd : ¬ D k) : w'.heap[k]? = some o := (h.2 k (heap_lt hk) hd).trans hk
theorem Kp.cell {D : Nat → Prop} {w w' : World} (h : Kp D w w') {a : Addr} {u : Value} (ha : w.cell? a = some u) (hd : ¬ D a.block) : w'.cell? a = some u := by
  rw [World.cell?_of_block (w := w) (h.2 a.block (blk_lt ha) hd)]; exact ha
theorem Kp.below {D : Nat → Prop} {w w' : World} (h : Kp D w w') {base : Nat} (hd : ∀ k, D k → base ≤ k) (hb : base ≤ w.heap.size) : Below base w w' :=
  ⟨h.1.os, h.1.tape, h.1.output, h.1.size, fun k hk => h.2 k (by omega) (fun x => by have := hd k x; omega)⟩
theorem Kp.setCell {D : Nat → Prop} {a w : World} (h : Kp D a w) {p : Addr} (hf : D p.block) (u : Value) : Kp D a (w.setCell p u) := Kept.setCell h (Nat.zero_le _) hf u
theorem Kp.alloc {D : Nat → Prop} {a w : World} (h : Kp D a w) (o : Obj) : Kp D a (w.alloc o) := Kept.alloc h (Nat.zero_le _) o
theorem Kp.drew {D : Nat → Prop} {a w : World} (h : Kp D a w) : Kp D a w.drew := Kept.drew h
theorem Kp.grown {D : Nat → Prop} {a w w' : World} {row : Option Nat} (h : Kp D a w) (hg : w.grownBy w' row) (hr : ∀ k, k < a.heap.size → row = some k → D k) : Kp D a w' :=
  h.trans (E := fun k => row = some k) ⟨⟨hg.os, hg.tape, hg.output, hg.size, fun k hk => by omega⟩, fun k hk hn => hg.block k hk (fun e => hn e.symm)⟩ hr
end Go.Proofs.YtjplhiflemmkfaaGreatDoor
namespace Go.Proofs.YtjplhiflemmkfaaGreatDoor
open Go.RowKit

/-- a clock at block p, with so many ticks left. -/
def Ck (t : TypeId) (w : World) (p : Nat) (n : Int) : Prop := w.heap[p]? = some (.cells #[.int .i64 n] t (0, 0))
theorem Ck.below {t : TypeId} {w w' : World} {p : Nat} {n : Int} (h : Ck t w p n) (hb : Below w.heap.size w w') : Ck t w' p n := Below.stay hb h
theorem Ck.lt {t : TypeId} {w : World} {p : Nat} {n : Int} (h : Ck t w p n) : p < w.heap.size := heap_lt h
theorem Ck.cell {t : TypeId} {w : World} {p : Nat} {n : Int} (h : Ck t w p n) : w.cell? ⟨p, 0, none⟩ = some (.int .i64 n) := (cell_of_block h).trans rfl
theorem Ck.free {t : TypeId} {w : World} {p : Nat} {n : Int} (h : Ck t w p n) : w.frozen? ⟨p, 0, none⟩ = false := free_of_block h
theorem Ck.set {t : TypeId} {w : World} {p : Nat} {n : Int} (h : Ck t w p n) (m : Int) : Ck t (w.setCell ⟨p, 0, none⟩ (.int .i64 m)) p m := setCell_block h
theorem Ck.other {t : TypeId} {w w' : World} {p q : Nat} {n : Int} (h : Ck t w p n) (hk : Kp (fun k => k = q) w w') (hn : p ≠ q) : Ck t w' p n := hk.block h hn
theorem kp_set (w : World) (p : Nat) (u : Value) : Kp (fun k => k = p) w (w.setCell ⟨p, 0, none⟩ u) := Kp.setCell (D := fun k => k = p) (p := ⟨p, 0, none⟩) (Kp.refl _ w) rfl u
theorem kp_far {p : Nat} {a b c : World} (h : Kp (fun k => k = p) a b) (k : Kp (fun k => k = p) b c) : Kp (fun k => k = p) a c := h.trans k (fun _ _ x => x)

theorem rem_ten (n : Int) : (n.tmod 10 < 0 ∧ n.tmod 10 + 10 = n % 10 ∧ -10 ≤ n.tmod 10) ∨ (¬ n.tmod 10 < 0 ∧ n.tmod 10 = n % 10) := by
  have h := @Int.tmod_eq_emod n 10
  have hb := Int.emod_nonneg n (show (10 : Int) ≠ 0 by omega)
  have hl := Int.emod_lt_of_pos n (show (0 : Int) < 10 by omega)
  split at h
  · right; omega
  · left; omega
theorem mod_ten (n : Int) : 0 ≤ n % 10 ∧ n % 10 < 10 := by omega

theorem more_any (d : Int) (w : World) : Calls Tryz.prog 176 #[.int .i64 d] w fun e w' => e = .returned (.int .i64 (d % 10)) ∧ w' = w := by
  rcases rem_ten d with ⟨h1, h2, h3⟩ | ⟨h1, h2⟩
  · have HE := hide h2
    clear h2
    go_enter Tryz.func176, Tryz.ntmps176
    go_wp2
    go_ret
    exact ⟨ret_int (unhide HE), rfl⟩
  · have HE := hide h2
    clear h2
    go_enter Tryz.func176, Tryz.ntmps176
    go_wp2
    go_ret
    exact ⟨ret_int (unhide HE), rfl⟩
theorem begin_any {p : Nat} {n : Int} (m : Int) (w : World) (h : Ck 140 w p n) :
    Calls Tryz.prog 175 #[.pointer (some ⟨p, 0, none⟩), .int .i64 m] w fun e w' => e = .returned (.tuple #[]) ∧ Ck 140 w' p m ∧ Kp (fun k => k = p) w w' := by
  have c0 := h.cell
  have f0 := h.free
  have H := hide h
  clear h
  go_enter Tryz.func175, Tryz.ntmps175
  go_wp2
  go_end0
  exact ⟨rfl, (unhide H).set m, kp_set _ _ _⟩
theorem down_any {p : Nat} {n : Int} (w : World) (h : Ck 140 w p n) (h1 : 1 ≤ n) (h2 : n ≤ 19) :
    Calls Tryz.prog 111 #[.pointer (some ⟨p, 0, none⟩)] w fun e w' => e = .returned (.bool (decide (n - 1 ≤ 0))) ∧ Ck 140 w' p (n - 1) ∧ Kp (fun k => k = p) w w' := by
  have c0 := h.cell
  have f0 := h.free
  have c1 := (h.set (n - 1)).cell
  have H := hide h
  clear h
  go_enter Tryz.func111, Tryz.ntmps111
  go_wp2
  go_ret
  exact ⟨rfl, (unhide H).set _, kp_set _ _ _⟩
theorem reset_any {p : Nat} {n : Int} (d : Int) (w : World) (h : Ck 140 w p n) :
    Calls Tryz.prog 112 #[.pointer (some ⟨p, 0, none⟩), .int .i64 d] w fun e w' => e = .returned (.tuple #[]) ∧ Ck 140 w' p (10 + d % 10) ∧ Kp (fun k => k = p) w w' := by
  have MO := hide (fun Y => more_any d Y)
  have hb := mod_ten d
  obtain ⟨m, hm⟩ : ∃ m, d % 10 = m := ⟨_, rfl⟩
  rw [hm] at MO hb
  rw [hm]
  have BE := hide (fun Y (h' : Ck 140 Y p n) => begin_any (10 + m) Y h')
  have H := hide (fun Y (hY : Below w.heap.size w Y) => h.below hY)
  have BD := hide (Below.refl w.heap.size w)
  have wr1 : IntKind.i64.wrap (10 + m) = 10 + m := IntWalk.i64_in _ (by omega)
  clear h hm
  go_enter Tryz.func112, Tryz.ntmps112
  go_region_with (first
    | (go_at_call 176; refine (unhide MO _).mono ?_; rintro e w1 ⟨rfl, rfl⟩)
    | (go_at_call 175; refine (unhide BE _ (unhide H _ (by first | exact (unhide BD).drew | exact (unhide BD)))).mono ?_; rintro e w2 ⟨rfl, c2, k2⟩; have K2 : Hid (Ck 140 w2 p (10 + m) ∧ Kp (fun k => k = p) w w2) := ⟨c2, kp_far ((Kp.refl _ w).drew) k2⟩; clear c2 k2))
  all_goals go_wp2
  all_goals go_end0
  all_goals exact ⟨rfl, unhide K2⟩
theorem qnew_any (d : Int) (w : World) :
    Calls Tryz.prog 105 #[.int .i64 d] w fun e w' => e = .returned (.pointer (some ⟨w.heap.size, 0, none⟩)) ∧ Ck 140 w' w.heap.size (10 + d % 10) ∧ Below w.heap.size w w' := by
  obtain ⟨W, hW⟩ : ∃ W, w.alloc (.cells #[.int .i64 0] 140) = W := ⟨_, rfl⟩
  have x0 : Ck 140 W w.heap.size 0 := by rw [← hW]; exact box_at _ _
  have bW : Below w.heap.size w W := by rw [← hW]; exact (Below.refl _ w).alloc (Nat.le_refl _) _
  have RE := hide (reset_any d W x0)
  have HW := hide hW
  have BW := hide bW
  clear x0 bW hW
  go_enter Tryz.func105, Tryz.ntmps105
  go_wp2_with fail
  rw [unhide HW]
  refine (unhide RE).mono ?_
  rintro e w1 ⟨rfl, h1, k1⟩
  have R := hide (And.intro h1 ((unhide BW).trans (k1.below (fun k hk => by rw [hk]; exact Nat.le_refl _) (unhide BW).size)))
  clear h1 k1 HW BW RE
  go_wp2
  go_ret
  exact ⟨rfl, unhide R⟩
/-- what a tick leaves. -/
def tickN (n d : Int) : Int := if n ≤ 1 then 10 + d % 10 else n - 1
theorem tick_any {p : Nat} {n : Int} (d : Int) (w : World) (h : Ck 140 w p n) (h1 : 1 ≤ n) (h2 : n ≤ 19) :
    Calls Tryz.prog 56 #[.pointer (some ⟨p, 0, none⟩), .int .i64 d] w fun e w' => e = .returned (.bool (decide (n ≤ 1))) ∧ Ck 140 w' p (tickN n d) ∧ Kp (fun k => k = p) w w' := by
  have DO := hide (down_any w h h1 h2)
  unfold tickN
  by_cases hn : n ≤ 1
  · rw [show decide (n - 1 ≤ 0) = true by rw [decide_eq_true_eq]; omega] at DO
    rw [show decide (n ≤ 1) = true by rw [decide_eq_true_eq]; exact hn, if_pos hn]
    clear h h1 h2 hn
    go_enter Tryz.func56, Tryz.ntmps56
    go_wp2_with fail
    refine (unhide DO).mono ?_
    rintro e w1 ⟨rfl, c1, k1⟩
    have RE := hide (reset_any d w1 c1)
    have K1 := hide k1
    clear c1 k1 DO
    go_wp2_with fail
    refine (unhide RE).mono ?_
    rintro e w2 ⟨rfl, c2, k2⟩
    have R := hide (And.intro c2 (kp_far (unhide K1) k2))
    clear c2 k2 RE
    go_wp2
    go_ret
    exact ⟨rfl, unhide R⟩
  · rw [show decide (n - 1 ≤ 0) = false by rw [decide_eq_false_iff_not]; omega] at DO
    rw [show decide (n ≤ 1) = false by rw [decide_eq_false_iff_not]; exact hn, if_neg hn]
    clear h h1 h2 hn
    go_enter Tryz.func56, Tryz.ntmps56
    go_wp2_with fail
    refine (unhide DO).mono ?_
    rintro e w1 ⟨rfl, c1, k1⟩
    have R := hide (And.intro c1 k1)
    clear c1 k1 DO
    go_wp2
    go_ret
    exact ⟨rfl, unhide R⟩
end Go.Proofs.YtjplhiflemmkfaaGreatDoor
