/- hist.numbers, behind: contracts. -/
import Derived.Test.YtjplhiflemmkfaaGreatDoorHhHTerm
import Derived.Test.YtjplhiflemmkfaaGreatDoorHhHPlace
import Derived.Test.YtjplhiflemmkfaaGreatDoorHhKEnter
import Derived.Deep.RegionHeld3
import Derived.Deep.DrawnRows
import Derived.Deep.DeepCutAuto
import Derived.Deep.CutBlock
namespace Go.Proofs.YtjplhiflemmkfaaGreatDoor.Hh
open Go.RowKit Go.Maps
attribute [local go_sem ↓] Go.wp_at_zero Go.wp_at_succ

/-- what counts as members behind an entry. -/
def cfStep (c : List Int × List Int) (e : En) : List Int × List Int :=
  if e.kind = 2 then (if barredOf c.1 c.2 e.ms = 0 then (c.2, e.ms) else c) else if e.kind = 4 then (if leaveOf c.1 = 0 then ([], leaveN c.1 c.2) else c) else c
def cfOf (c : List Int × List Int) (es : List En) : List Int × List Int := es.foldl cfStep c

theorem three_at (w : World) (o o' o'' : Obj) : (((w.alloc o).alloc o').alloc o'').heap[w.heap.size]? = some o ∧ (((w.alloc o).alloc o').alloc o'').heap[w.heap.size + 1]? = some o' ∧ (((w.alloc o).alloc o').alloc o'').heap[w.heap.size + 2]? = some o'' ∧ Below w.heap.size w (((w.alloc o).alloc o').alloc o'') := by
  have s1 : (w.alloc o).heap.size = w.heap.size + 1 := by simp
  have s2 : ((w.alloc o).alloc o').heap.size = w.heap.size + 2 := by simp
  refine ⟨?_, ?_, ?_, (((Below.refl _ w).alloc (Nat.le_refl _) o).alloc (by omega) o').alloc (by omega) o''⟩
  · rw [Below.heap_alloc _ _ _ (by omega), Below.heap_alloc _ _ _ (by omega)]; exact box_at _ _
  · rw [Below.heap_alloc _ _ _ (by omega), ← s1]; exact box_at _ _
  · rw [← s2]; exact box_at _ _

/-- numbers do not lie in a box of slices. -/
theorem fr_box {y W : World} {B : Nat} {x0 x1 : Value} {t : TypeId} {fr : Nat × Nat} {ao : Option Addr} {xs : List Int} (h : Fr y ao xs) (hB : y.heap[B]? = some (.cells #[x0, x1] t fr)) (h0 : ∀ v, x0 ≠ .int .i64 v) (h1 : ∀ v, x1 ≠ .int .i64 v) (hk : ∀ k, k ≠ B → W.heap[k]? = y.heap[k]?) : Fr W ao xs := by
  refine ⟨fun i hi => ?_, h.2⟩
  obtain ⟨a, e, hc⟩ := h.1 i hi
  obtain ⟨b, off, rfl⟩ := h.2 a e
  refine ⟨_, e, ?_⟩
  rw [Addr.add_lit] at hc ⊢
  have hne : b ≠ B := fun x => by
    rw [x, cell_of_block hB] at hc
    rcases Nat.lt_or_ge (off + i) 2 with q | q
    · have : off + i = 0 ∨ off + i = 1 := by omega
      rcases this with q | q
      · rw [q] at hc; simp at hc; exact h0 _ hc
      · rw [q] at hc; simp at hc; exact h1 _ hc
    · rw [Array.getElem?_eq_none (by simpa using q)] at hc; cases hc
  rw [World.cell?_of_block (w := y) (a := ⟨b, off + i, none⟩) (hk b hne)]; exact hc
theorem Cf.box {y W : World} {B : Nat} {x0 x1 : Value} {t : TypeId} {fr : Nat × Nat} {v : Value} {old new : List Int} (h : Cf y v old new) (hB : y.heap[B]? = some (.cells #[x0, x1] t fr)) (h0 : ∀ v, x0 ≠ .int .i64 v) (h1 : ∀ v, x1 ≠ .int .i64 v) (hk : ∀ k, k ≠ B → W.heap[k]? = y.heap[k]?) : Cf W v old new := by
  obtain ⟨ao, no, co, an, nn, cn, e1, e2, e3, e4, e5, e6, e7⟩ := h
  exact ⟨ao, no, co, an, nn, cn, e1, e2, e3, fr_box e4 hB h0 h1 hk, e5, e6, fr_box e7 hB h0 h1 hk⟩

set_option maxHeartbeats 4000000 in
/-- the step that enters, inside its closure. -/
theorem inside_any (ao an : Option Addr) (no nn co cn : Nat) (old new : List Int) (hno : old.length = no) (hnn : new.length = nn) (hlo : no ≤ 1000000) (hln : nn ≤ 1000000) (B : Nat) (e : En) (mo : Option Addr) (z mc : Nat) (hz : e.ms.length = z) (hl : z ≤ 1000000) (w : World) (hw : IntsR w an new)
    (hB : w.heap[B]? = some (.cells #[.int .i64 e.kind, .int .i64 e.client, .int .i64 e.seq, .string e.text, .slice mo z mc, .int .i64 e.dest] 43 (0, 0))) (hm : IntsR w mo e.ms) :
    Calls Tryz.prog 232 #[.agg #[.slice ao no co, .slice an nn cn], .pointer (some ⟨B, 0, none⟩)] w fun x w' => ∃ v, x = .returned (.tuple #[v, .int .i64 ((barredOf old new e.ms : Nat) : Int)]) ∧ Cf w' v (entO old new e.ms) (entN old new e.ms) ∧ Below w.heap.size w w' := by
  obtain ⟨W, hW⟩ : ∃ W, (w.alloc (.cells #[.slice ao no co, .slice an nn cn] 26)).alloc (.cells #[.slice none 0 0, .slice none 0 0] 26) = W := ⟨_, rfl⟩
  have bW : Below w.heap.size w W := by rw [← hW]; exact ((Below.refl _ w).alloc (Nat.le_refl _) _).alloc (by simp) _
  have x0 : W.heap[w.heap.size]? = some (.cells #[.slice ao no co, .slice an nn cn] 26 (0, 0)) := by rw [← hW]; exact (Below.heap_alloc _ _ _ (by simp)).trans (box_at _ _)
  have x1 : W.heap[w.heap.size + 1]? = some (.cells #[.slice none 0 0, .slice none 0 0] 26 (0, 0)) := by
    have := box_at (w.alloc (.cells #[.slice ao no co, .slice an nn cn] 26)) (.cells #[.slice none 0 0, .slice none 0 0] 26)
    rw [hW] at this
    simpa using this
  obtain ⟨c0, c1⟩ := two_cells x0
  have m4 : W.cell? ⟨B, 4, none⟩ = some (.slice mo z mc) := (cell_of_block (Below.stay bW hB)).trans rfl
  have EN := hide (enter_any ao an mo no nn z co cn mc old new e.ms hno hnn hz hlo hln hl W (hw.below bW) (hm.below bW))
  have HW := hide hW
  have BW := hide bW
  have X1 := hide x1
  obtain ⟨N0, hN0⟩ : ∃ N0, barredOf old new e.ms = N0 := ⟨_, rfl⟩
  rw [hN0] at EN ⊢
  clear hW bW x0 x1 hB hw hm hno hnn hz hN0
  go_enter Tryz.func232, Tryz.ntmps232
  go_upto_region 1 with fail
  rw [unhide HW]
  clear HW
  go_wp2_with fail
  refine (unhide EN).mono ?_
  rintro x w3 ⟨v3, rfl, f3, b3⟩
  have F3 := hide f3
  obtain ⟨ao3, no3, co3, an3, nn3, cn3, rfl, -⟩ := f3
  have x3 := Below.stay b3 (unhide X1)
  obtain ⟨d0, d1⟩ := two_cells x3
  obtain ⟨g0, g1⟩ := two_free x3
  have B3 := hide (below_far (unhide BW) b3)
  have X3 := hide x3
  clear b3 EN x3 c0 c1 m4
  go_wp2
  obtain ⟨r0, r1, rb, rk⟩ := two_end (a := .slice ao3 no3 co3) (b := .slice an3 nn3 cn3) (unhide X3) (Nat.le_succ _) (unhide B3)
  exact bodyPost_ret (v := .tuple #[.agg #[.slice ao3 no3 co3, .slice an3 nn3 cn3], .int .i64 (N0 : Int)]) (by simp [results, Tryz.results232, go_sem, r0, r1]) rfl ⟨_, rfl, (unhide F3).box (unhide X3) (fun v h => by cases h) (fun v h => by cases h) rk, rb⟩

set_option maxHeartbeats 8000000 in
set_option maxRecDepth 100000 in
theorem behind_any (v : Value) (old new : List Int) (hlo : old.length ≤ 1000000) (hln : new.length ≤ 1000000) (e : En) (mo : Option Addr) (z mc : Nat) (hz : e.ms.length = z) (hl : z ≤ 1000000) (w : World) (hc : Cf w v old new) (hm : IntsR w mo e.ms) :
    Calls Tryz.prog 168 #[v, .agg #[.int .i64 e.kind, .int .i64 e.client, .int .i64 e.seq, .string e.text, .slice mo z mc, .int .i64 e.dest]] w fun x w' => ∃ v', x = .returned v' ∧ Cf w' v' (cfStep (old, new) e).1 (cfStep (old, new) e).2 ∧ Below w.heap.size w w' := by
  have HC := hide hc
  obtain ⟨ao, no, co, an, nn, cn, rfl, hno, hoc, fo, hnn, hnc, fn⟩ := hc
  obtain ⟨W, hW⟩ : ∃ W, ((w.alloc (.cells #[.slice ao no co, .slice an nn cn] 26)).alloc (.cells #[.int .i64 e.kind, .int .i64 e.client, .int .i64 e.seq, .string e.text, .slice mo z mc, .int .i64 e.dest] 43)).alloc (.cells #[.slice none 0 0, .slice none 0 0] 26) = W := ⟨_, rfl⟩
  obtain ⟨x0, x1, x2, bW⟩ := three_at w (.cells #[.slice ao no co, .slice an nn cn] 26) (.cells #[.int .i64 e.kind, .int .i64 e.client, .int .i64 e.seq, .string e.text, .slice mo z mc, .int .i64 e.dest] 43) (.cells #[.slice none 0 0, .slice none 0 0] 26)
  rw [hW] at x0 x1 x2 bW
  obtain ⟨c0, c1⟩ := two_cells x0
  have k0 : W.cell? ⟨w.heap.size + 1, 0, none⟩ = some (.int .i64 e.kind) := (cell_of_block x1).trans rfl
  have HW := hide hW
  have BW := hide bW
  have X0 := hide x0
  have X1 := hide x1
  have X2 := hide x2
  have IN := hide (inside_any ao an no nn co cn old new hno hnn (by omega) (by omega) (w.heap.size + 1) e mo z mc hz hl W (fn.1.below bW) x1 (hm.below bW))
  have LE := hide (leave_any ao an no nn co cn old new hno hnn (by omega) W (fn.1.below bW))
  obtain ⟨kd, hkd⟩ : ∃ kd, e.kind = kd := ⟨_, rfl⟩
  rw [hkd] at HW k0 X1
  rw [hkd]
  have HKD := hide hkd
  clear hW bW x0 x1 x2 hno hoc fo hnn hnc fn hm hz hkd
  by_cases h2 : kd = 2
  · subst h2
    obtain ⟨N0, hN0⟩ : ∃ N0, barredOf old new e.ms = N0 := ⟨_, rfl⟩
    have CY : Hid (N0 = 0 → cfStep (old, new) e = (entO old new e.ms, entN old new e.ms)) := fun h => by
      unfold cfStep entO entN; rw [if_pos (unhide HKD), hN0, h]; rfl
    have CN : Hid (¬ N0 = 0 → cfStep (old, new) e = (old, new)) := fun h => by
      unfold cfStep; rw [if_pos (unhide HKD)]; show (if barredOf old new e.ms = 0 then _ else _) = _; rw [hN0, if_neg h]
    rw [hN0] at IN
    clear hN0 LE
    go_enter Tryz.func168, Tryz.ntmps168
    go_upto_region 1 with fail
    rw [unhide HW]
    clear HW
    go_wp2_with fail
    refine (unhide IN).mono ?_
    rintro x w3 ⟨v3, rfl, f3, b3⟩
    have F3 := hide f3
    obtain ⟨ao3, no3, co3, an3, nn3, cn3, rfl, -⟩ := f3
    obtain ⟨W4, hW4⟩ : ∃ W4, w3.alloc (.cells #[.slice ao3 no3 co3, .slice an3 nn3 cn3] 26) = W4 := ⟨_, rfl⟩
    have b4 : Below w3.heap.size w3 W4 := by rw [← hW4]; exact (Below.refl _ w3).alloc (Nat.le_refl _) _
    have x4 : W4.heap[w3.heap.size]? = some (.cells #[.slice ao3 no3 co3, .slice an3 nn3 cn3] 26 (0, 0)) := by rw [← hW4]; exact box_at _ _
    have b34 := below_far b3 b4
    have y0 := Below.stay b34 (unhide X0)
    have y2 := Below.stay b34 (unhide X2)
    obtain ⟨n0, n1⟩ := two_cells x4
    obtain ⟨m0, m1⟩ := two_cells y0
    obtain ⟨d0, d1⟩ := two_cells y2
    obtain ⟨g0, g1⟩ := two_free y2
    have X4 := hide y2
    have B4 := hide (below_far (unhide BW) b34)
    have F4 := hide ((unhide F3).below b4)
    have HW4 := hide hW4
    clear b3 b4 x4 b34 y0 y2 hW4 IN c0 c1 k0 F3
    by_cases hN : N0 = 0
    · subst hN
      have CE := hide (unhide CY rfl)
      clear CY CN
      go_upto_region 7 with fail
      rw [unhide HW4]
      clear HW4
      go_wp2
      obtain ⟨r0, r1, rb, rk⟩ := two_end (a := .slice ao3 no3 co3) (b := .slice an3 nn3 cn3) (unhide X4) (by show w.heap.size ≤ w.heap.size + 2; omega) (unhide B4)
      exact bodyPost_ret (v := .agg #[.slice ao3 no3 co3, .slice an3 nn3 cn3]) (by simp [results, Tryz.results168, go_sem, r0, r1]) rfl ⟨_, rfl, by rw [unhide CE]; exact (unhide F4).box (unhide X4) (fun v h => by cases h) (fun v h => by cases h) rk, rb⟩
    · have e0 : ((N0 : Int) == 0) = false := by rw [beq_eq_false_iff_ne]; omega
      have CE := hide (unhide CN hN)
      clear CY CN
      go_upto_region 7 with fail
      rw [unhide HW4]
      clear HW4
      go_wp2
      obtain ⟨r0, r1, rb, rk⟩ := two_end (a := .slice ao no co) (b := .slice an nn cn) (unhide X4) (by show w.heap.size ≤ w.heap.size + 2; omega) (unhide B4)
      exact bodyPost_ret (v := .agg #[.slice ao no co, .slice an nn cn]) (by simp [results, Tryz.results168, go_sem, r0, r1]) rfl ⟨_, rfl, by rw [unhide CE]; exact ((unhide HC).below (unhide B4)).box (unhide X4) (fun v h => by cases h) (fun v h => by cases h) rk, rb⟩
  · by_cases h4 : kd = 4
    · subst h4
      obtain ⟨N0, hN0⟩ : ∃ N0, leaveOf old = N0 := ⟨_, rfl⟩
      have CY : Hid (N0 = 0 → cfStep (old, new) e = ([], leaveN old new)) := fun h => by
        unfold cfStep; rw [if_neg (by rw [unhide HKD]; decide), if_pos (unhide HKD)]; show (if leaveOf old = 0 then _ else _) = _; rw [hN0, if_pos h]
      have CN : Hid (¬ N0 = 0 → cfStep (old, new) e = (old, new)) := fun h => by
        unfold cfStep; rw [if_neg (by rw [unhide HKD]; decide), if_pos (unhide HKD)]; show (if leaveOf old = 0 then _ else _) = _; rw [hN0, if_neg h]
      rw [hN0] at LE
      clear hN0 IN
      go_enter Tryz.func168, Tryz.ntmps168
      go_upto_region 1 with fail
      rw [unhide HW]
      clear HW
      go_wp2_with fail
      refine (unhide LE).mono ?_
      rintro x w3 ⟨v3, rfl, f3, b3⟩
      have F3 := hide f3
      obtain ⟨ao3, no3, co3, an3, nn3, cn3, rfl, -⟩ := f3
      obtain ⟨W4, hW4⟩ : ∃ W4, w3.alloc (.cells #[.slice ao3 no3 co3, .slice an3 nn3 cn3] 26) = W4 := ⟨_, rfl⟩
      have b4 : Below w3.heap.size w3 W4 := by rw [← hW4]; exact (Below.refl _ w3).alloc (Nat.le_refl _) _
      have x4 : W4.heap[w3.heap.size]? = some (.cells #[.slice ao3 no3 co3, .slice an3 nn3 cn3] 26 (0, 0)) := by rw [← hW4]; exact box_at _ _
      have b34 := below_far b3 b4
      have y0 := Below.stay b34 (unhide X0)
      have y2 := Below.stay b34 (unhide X2)
      obtain ⟨n0, n1⟩ := two_cells x4
      obtain ⟨m0, m1⟩ := two_cells y0
      obtain ⟨d0, d1⟩ := two_cells y2
      obtain ⟨g0, g1⟩ := two_free y2
      have X4 := hide y2
      have B4 := hide (below_far (unhide BW) b34)
      have F4 := hide ((unhide F3).below b4)
      have HW4 := hide hW4
      clear b3 b4 x4 b34 y0 y2 hW4 LE c0 c1 k0 F3
      by_cases hN : N0 = 0
      · subst hN
        have CE := hide (unhide CY rfl)
        clear CY CN
        go_upto_region 7 with fail
        rw [unhide HW4]
        clear HW4
        go_wp2
        obtain ⟨r0, r1, rb, rk⟩ := two_end (a := .slice ao3 no3 co3) (b := .slice an3 nn3 cn3) (unhide X4) (by show w.heap.size ≤ w.heap.size + 2; omega) (unhide B4)
        exact bodyPost_ret (v := .agg #[.slice ao3 no3 co3, .slice an3 nn3 cn3]) (by simp [results, Tryz.results168, go_sem, r0, r1]) rfl ⟨_, rfl, by rw [unhide CE]; exact (unhide F4).box (unhide X4) (fun v h => by cases h) (fun v h => by cases h) rk, rb⟩
      · have e0 : ((N0 : Int) == 0) = false := by rw [beq_eq_false_iff_ne]; omega
        have CE := hide (unhide CN hN)
        clear CY CN
        go_upto_region 7 with fail
        rw [unhide HW4]
        clear HW4
        go_wp2
        obtain ⟨r0, r1, rb, rk⟩ := two_end (a := .slice ao no co) (b := .slice an nn cn) (unhide X4) (by show w.heap.size ≤ w.heap.size + 2; omega) (unhide B4)
        exact bodyPost_ret (v := .agg #[.slice ao no co, .slice an nn cn]) (by simp [results, Tryz.results168, go_sem, r0, r1]) rfl ⟨_, rfl, by rw [unhide CE]; exact ((unhide HC).below (unhide B4)).box (unhide X4) (fun v h => by cases h) (fun v h => by cases h) rk, rb⟩
    · have CN : Hid (cfStep (old, new) e = (old, new)) := by
        show cfStep (old, new) e = (old, new)
        unfold cfStep; rw [if_neg (by rw [unhide HKD]; exact h2), if_neg (by rw [unhide HKD]; exact h4)]
      have e2 : (kd == 2) = false := by rw [beq_eq_false_iff_ne]; exact h2
      have e4 : (kd == 4) = false := by rw [beq_eq_false_iff_ne]; exact h4
      obtain ⟨d0, d1⟩ := two_cells (unhide X2)
      obtain ⟨g0, g1⟩ := two_free (unhide X2)
      have X4 := X2
      have B4 := BW
      clear IN LE
      go_enter Tryz.func168, Tryz.ntmps168
      go_upto_region 1 with fail
      rw [unhide HW]
      clear HW
      go_wp2
      obtain ⟨r0, r1, rb, rk⟩ := two_end (a := .slice ao no co) (b := .slice an nn cn) (unhide X4) (by show w.heap.size ≤ w.heap.size + 2; omega) (unhide B4)
      exact bodyPost_ret (v := .agg #[.slice ao no co, .slice an nn cn]) (by simp [results, Tryz.results168, go_sem, r0, r1]) rfl ⟨_, rfl, by rw [unhide CN]; exact ((unhide HC).below (unhide B4)).box (unhide X4) (fun v h => by cases h) (fun v h => by cases h) rk, rb⟩
end Go.Proofs.YtjplhiflemmkfaaGreatDoor.Hh
