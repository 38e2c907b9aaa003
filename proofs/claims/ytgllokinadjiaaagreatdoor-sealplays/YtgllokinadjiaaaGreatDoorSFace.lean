/- seal: begun, answer, New: contracts. seal.restored: a contract, where all that bytes say may be. seal.Load: a contract, where all that bytes say may be. synodalref2.num: a contract. -/
import Derived.Test.YtgllokinadjiaaaGreatDoorSAdd2
import Derived.Test.YtgllokinadjiaaaGreatDoorSPRow
import Derived.Test.YtgllokinadjiaaaGreatDoorWwReader
namespace Go.Proofs.YtgllokinadjiaaaGreatDoor
open Go.RowKit Go.Maps

theorem wrongOf_vals (b : Bool) (xs : List Int) : wrongOf b xs = 0 ∨ wrongOf b xs = 1 ∨ wrongOf b xs = 2 ∨ wrongOf b xs = 4 := by
  unfold wrongOf
  split
  · simp
  · split
    · simp
    · split <;> simp
theorem checkOf_vals (o n : List Int) : checkOf o n = 0 ∨ checkOf o n = 1 ∨ checkOf o n = 2 ∨ checkOf o n = 4 := by
  unfold checkOf
  split
  · exact wrongOf_vals _ _
  · exact wrongOf_vals _ _
theorem wrongG_vals (gs : List Gn) (n e b : Int) (o m : List Int) : wrongG gs n e b o m = 0 ∨ wrongG gs n e b o m = 1 ∨ wrongG gs n e b o m = 2 ∨ wrongG gs n e b o m = 4 := by
  unfold wrongG wrongB
  have := checkOf_vals o m
  split
  · simp
  · split
    · rcases this with h | h | h | h <;> simp [h]
    · split
      · simp
      · split <;> simp
theorem face_num {c : Int} (h : c = 1 ∨ c = 2 ∨ c = 4) : faceOf (fun m => c == m) = c := by
  rcases h with rfl | rfl | rfl <;> rfl
theorem face_nil : faceOf (fun _ => false) = 0 := rfl
theorem neqRefNil (q : Nat) (w : World) : (binOp .neq 62 (refV q) .nilIface).run Tryz.prog w = .ok (.bool true) w := by kernel_rfl
/-- the box of generations that are none yet. -/
theorem gens_new (w : World) : Gs (fun k => k = w.heap.size) (w.alloc (.cells #[.slice none 0 0] 73)) w.heap.size [] :=
  ⟨⟨_, box_at _ _, GRow.nil _ _⟩, rfl, fun k hk => by subst hk; simp⟩

set_option maxRecDepth 20000 in
set_option maxHeartbeats 2000000 in
theorem begun_no (w : World) (n e b : Int) (xo mo : Option Addr) (xn xc m mc : Nat) (old new : List Int) (hno : old.length = xn) (hnn : new.length = m) (hlo : xn ≤ 1000000000) (hln : m ≤ 1000000000) (ho : IntsR w xo old) (hw : IntsR w mo new) (hn0 : wrongG [] n e b old new ≠ 0) :
    Calls Tryz.prog 27 #[.agg #[.int .i64 n, .int .i64 e, .int .i64 b, .slice xo xn xc, .slice mo m mc]] w fun x w' => ∃ q, x = .returned (.tuple #[.pointer none, refV q]) ∧ Ref w' q (wrongG [] n e b old new) ∧ Below w.heap.size w w' := by
  obtain ⟨W0, hW0, b0, x0⟩ := boxG w n e b xo mo xn xc m mc
  obtain ⟨W, hW⟩ : ∃ W, W0.alloc (.cells #[.slice none 0 0] 73) = W := ⟨_, rfl⟩
  have b1 : Below W0.heap.size W0 W := by rw [← hW]; exact (Below.refl _ _).alloc (Nat.le_refl _) _
  have s0 : W0.heap.size = w.heap.size + 1 := by rw [← hW0]; simp
  have hG := gens_new W0
  rw [hW] at hG
  have bW := below_far b0 b1
  have CA := add_no hG (by simp) n e b xo mo xn xc m mc old new hno hnn hlo hln (ho.below bW) (hw.below bW) hn0
  rw [s0] at CA
  obtain ⟨r, hr⟩ : ∃ r, wrongG [] n e b old new = r := ⟨_, rfl⟩
  rw [hr] at CA ⊢
  have xW := Below.stay b1 x0
  have k0 : W.cell? ⟨w.heap.size, 0, none⟩ = some (.int .i64 n) := (cell_of_block xW).trans rfl
  have k1 : W.cell? ⟨w.heap.size, 1, none⟩ = some (.int .i64 e) := (cell_of_block xW).trans rfl
  have k2 : W.cell? ⟨w.heap.size, 2, none⟩ = some (.int .i64 b) := (cell_of_block xW).trans rfl
  have k3 : W.cell? ⟨w.heap.size, 3, none⟩ = some (.slice xo xn xc) := (cell_of_block xW).trans rfl
  have k4 : W.cell? ⟨w.heap.size, 4, none⟩ = some (.slice mo m mc) := (cell_of_block xW).trans rfl
  have HW : Hid ((w.alloc (.cells #[.int .i64 n, .int .i64 e, .int .i64 b, .slice xo xn xc, .slice mo m mc] 26)).alloc (.cells #[.slice none 0 0] 73) = W) := by rw [hW0]; exact hW
  have CA' := hide CA
  have BW := hide bW
  have NN := neqRefNil
  clear CA hr hn0 hG hW hW0 b0 b1 x0 xW bW s0 hno hnn ho hw hlo hln
  go_enter Tryz.func27, Tryz.ntmps27
  go_upto_region 2 with fail
  rw [unhide HW]
  go_wp2_with fail
  refine (unhide CA').mono ?_
  clear k0 k1 k2 k3 k4
  rintro x w1 ⟨q, rfl, hq, b1⟩
  have HQ := hide hq
  have B1 := hide (below_far (unhide BW) b1)
  clear b1 hq
  unfold refV at *
  go_wp2
  refine bodyPost_ret (v := .tuple #[.pointer none, .iface 93 (.pointer (some ⟨q, 0, none⟩))]) (by simp [results, Tryz.results27, go_sem]) rfl ?_
  exact ⟨q, rfl, unhide HQ, unhide B1⟩
set_option maxRecDepth 20000 in
set_option maxHeartbeats 2000000 in
theorem begun_ok (w : World) (g : Gn) (xo mo : Option Addr) (xn xc m mc : Nat) (old : List Int) (hno : old.length = xn) (hnn : g.ms.length = m) (hlo : xn ≤ 1000000000) (hln : m ≤ 1000000) (ho : IntsR w xo old) (hw : IntsR w mo g.ms) (hn0 : wrongG [] g.n g.eng g.base old g.ms = 0) :
    Calls Tryz.prog 27 #[.agg #[.int .i64 g.n, .int .i64 g.eng, .int .i64 g.base, .slice xo xn xc, .slice mo m mc]] w fun x w' => ∃ p D, x = .returned (.tuple #[.pointer (some ⟨p, 0, none⟩), .nilIface]) ∧ Gs D w' p [g] ∧ (∀ k, D k → w.heap.size ≤ k) ∧ Below w.heap.size w w' := by
  obtain ⟨W0, hW0, b0, x0⟩ := boxG w g.n g.eng g.base xo mo xn xc m mc
  obtain ⟨W, hW⟩ : ∃ W, W0.alloc (.cells #[.slice none 0 0] 73) = W := ⟨_, rfl⟩
  have b1 : Below W0.heap.size W0 W := by rw [← hW]; exact (Below.refl _ _).alloc (Nat.le_refl _) _
  have s0 : W0.heap.size = w.heap.size + 1 := by rw [← hW0]; simp
  have hG := gens_new W0
  rw [hW] at hG
  have bW := below_far b0 b1
  have CA := add_ok hG (by simp) g xo mo xn xc m mc old hno hnn hlo hln (ho.below bW) (hw.below bW) hn0
  rw [s0] at CA
  have xW := Below.stay b1 x0
  have k0 : W.cell? ⟨w.heap.size, 0, none⟩ = some (.int .i64 g.n) := (cell_of_block xW).trans rfl
  have k1 : W.cell? ⟨w.heap.size, 1, none⟩ = some (.int .i64 g.eng) := (cell_of_block xW).trans rfl
  have k2 : W.cell? ⟨w.heap.size, 2, none⟩ = some (.int .i64 g.base) := (cell_of_block xW).trans rfl
  have k3 : W.cell? ⟨w.heap.size, 3, none⟩ = some (.slice xo xn xc) := (cell_of_block xW).trans rfl
  have k4 : W.cell? ⟨w.heap.size, 4, none⟩ = some (.slice mo m mc) := (cell_of_block xW).trans rfl
  have HW : Hid ((w.alloc (.cells #[.int .i64 g.n, .int .i64 g.eng, .int .i64 g.base, .slice xo xn xc, .slice mo m mc] 26)).alloc (.cells #[.slice none 0 0] 73) = W) := by rw [hW0]; exact hW
  have CA' := hide CA
  have BW := hide bW
  clear CA hn0 hG hW hW0 b0 b1 x0 xW bW s0 hno hnn ho hw hlo
  go_enter Tryz.func27, Tryz.ntmps27
  go_upto_region 2 with fail
  rw [unhide HW]
  go_wp2_with fail
  refine (unhide CA').mono ?_
  clear k0 k1 k2 k3 k4
  rintro x w1 ⟨rfl, hg, kp⟩
  have HG := hide hg
  have B1 := hide ((unhide BW).trans (kp.below (base := w.heap.size) (fun k hk => by subst hk; exact Nat.le_succ _) (unhide BW).size))
  have S1 := hide (unhide BW).size
  clear kp hg
  go_wp2
  refine bodyPost_ret (v := .tuple #[.pointer (some ⟨w.heap.size + 1, 0, none⟩), .nilIface]) (by simp [results, Tryz.results27, go_sem]) rfl ?_
  exact ⟨_, _, rfl, unhide HG, fun k hk => by
    rcases hk with hk | hk
    · subst hk; exact Nat.le_succ _
    · exact Nat.le_trans (unhide S1) hk.1, unhide B1⟩
set_option maxRecDepth 20000 in
theorem answer_no (pv : Value) (q : Nat) (c : Int) (hc : c = 1 ∨ c = 2 ∨ c = 4) (w : World) (h : Ref w q c) : Calls Tryz.prog 26 #[pv, refV q] w fun x w' => x = .returned (.tuple #[.pointer none, .int .i64 c]) ∧ Below w.heap.size w w' := by
  have CN := number_says (refV q) _ w (Says.ref h)
  rw [face_num hc] at CN
  have CN' := hide CN
  have NN := neqRefNil
  clear CN h hc
  unfold refV at *
  go_enter Tryz.func26, Tryz.ntmps26
  go_wp2_with fail
  refine (unhide CN').mono ?_
  rintro x w1 ⟨rfl, b1⟩
  have B1 := hide b1
  clear b1
  go_wp2
  refine bodyPost_ret (v := .tuple #[.pointer none, .int .i64 c]) (by simp [results, Tryz.results26, go_sem]) rfl ?_
  exact ⟨rfl, unhide B1⟩
set_option maxRecDepth 20000 in
theorem answer_ok (p : Nat) (w : World) : Calls Tryz.prog 26 #[.pointer (some ⟨p, 0, none⟩), .nilIface] w fun x w' => x = .returned (.tuple #[.pointer (some ⟨p, 0, none⟩), .int .i64 0]) ∧ Below w.heap.size w w' := by
  go_enter Tryz.func26, Tryz.ntmps26
  go_wp2
  refine bodyPost_ret (v := .tuple #[.pointer (some ⟨p, 0, none⟩), .int .i64 0]) (by simp [results, Tryz.results26, go_sem]) rfl ?_
  exact ⟨rfl, Below.refl _ _⟩
set_option maxRecDepth 20000 in
set_option maxHeartbeats 2000000 in
theorem new_no (w : World) (n e b : Int) (xo mo : Option Addr) (xn xc m mc : Nat) (old new : List Int) (hno : old.length = xn) (hnn : new.length = m) (hlo : xn ≤ 1000000000) (hln : m ≤ 1000000000) (ho : IntsR w xo old) (hw : IntsR w mo new) (hn0 : wrongG [] n e b old new ≠ 0) :
    Calls Tryz.prog 7 #[.agg #[.int .i64 n, .int .i64 e, .int .i64 b, .slice xo xn xc, .slice mo m mc]] w fun x w' => x = .returned (.tuple #[.pointer none, .int .i64 (wrongG [] n e b old new)]) ∧ Below w.heap.size w w' := by
  obtain ⟨W, hW, bW, xW⟩ := boxG w n e b xo mo xn xc m mc
  have CB := begun_no W n e b xo mo xn xc m mc old new hno hnn hlo hln (ho.below bW) (hw.below bW) hn0
  have hv := wrongG_vals [] n e b old new
  obtain ⟨r, hr⟩ : ∃ r, wrongG [] n e b old new = r := ⟨_, rfl⟩
  rw [hr] at CB hn0 hv ⊢
  have hv' : r = 1 ∨ r = 2 ∨ r = 4 := by omega
  have HV := hide hv'
  have k0 : W.cell? ⟨w.heap.size, 0, none⟩ = some (.int .i64 n) := (cell_of_block xW).trans rfl
  have k1 : W.cell? ⟨w.heap.size, 1, none⟩ = some (.int .i64 e) := (cell_of_block xW).trans rfl
  have k2 : W.cell? ⟨w.heap.size, 2, none⟩ = some (.int .i64 b) := (cell_of_block xW).trans rfl
  have k3 : W.cell? ⟨w.heap.size, 3, none⟩ = some (.slice xo xn xc) := (cell_of_block xW).trans rfl
  have k4 : W.cell? ⟨w.heap.size, 4, none⟩ = some (.slice mo m mc) := (cell_of_block xW).trans rfl
  have CB' := hide CB
  have HW := hide hW
  have BW := hide bW
  clear CB hr hn0 hv hv' hno hnn ho hw hW bW xW hlo hln
  go_enter Tryz.func7, Tryz.ntmps7
  go_upto_region 1 with fail
  rw [unhide HW]
  go_wp2_with fail
  refine (unhide CB').mono ?_
  clear k0 k1 k2 k3 k4
  rintro x w1 ⟨q, rfl, hq, b1⟩
  have CN := hide (answer_no (.pointer none) q r (unhide HV) w1 hq)
  have B1 := hide (below_far (unhide BW) b1)
  clear b1 hq
  go_wp2_with fail
  refine (unhide CN).mono ?_
  rintro x w2 ⟨rfl, b2⟩
  have B2 := hide (below_far (unhide B1) b2)
  clear b2
  go_wp2
  refine bodyPost_ret (v := .tuple #[.pointer none, .int .i64 r]) (by simp [results, Tryz.results7, go_sem]) rfl ?_
  exact ⟨rfl, unhide B2⟩
set_option maxRecDepth 20000 in
set_option maxHeartbeats 2000000 in
theorem new_ok (w : World) (g : Gn) (xo mo : Option Addr) (xn xc m mc : Nat) (old : List Int) (hno : old.length = xn) (hnn : g.ms.length = m) (hlo : xn ≤ 1000000000) (hln : m ≤ 1000000) (ho : IntsR w xo old) (hw : IntsR w mo g.ms) (hn0 : wrongG [] g.n g.eng g.base old g.ms = 0) :
    Calls Tryz.prog 7 #[.agg #[.int .i64 g.n, .int .i64 g.eng, .int .i64 g.base, .slice xo xn xc, .slice mo m mc]] w fun x w' => ∃ p D, x = .returned (.tuple #[.pointer (some ⟨p, 0, none⟩), .int .i64 0]) ∧ Gs D w' p [g] ∧ (∀ k, D k → w.heap.size ≤ k) ∧ Below w.heap.size w w' := by
  obtain ⟨W, hW, bW, xW⟩ := boxG w g.n g.eng g.base xo mo xn xc m mc
  have CB := begun_ok W g xo mo xn xc m mc old hno hnn hlo hln (ho.below bW) (hw.below bW) hn0
  have k0 : W.cell? ⟨w.heap.size, 0, none⟩ = some (.int .i64 g.n) := (cell_of_block xW).trans rfl
  have k1 : W.cell? ⟨w.heap.size, 1, none⟩ = some (.int .i64 g.eng) := (cell_of_block xW).trans rfl
  have k2 : W.cell? ⟨w.heap.size, 2, none⟩ = some (.int .i64 g.base) := (cell_of_block xW).trans rfl
  have k3 : W.cell? ⟨w.heap.size, 3, none⟩ = some (.slice xo xn xc) := (cell_of_block xW).trans rfl
  have k4 : W.cell? ⟨w.heap.size, 4, none⟩ = some (.slice mo m mc) := (cell_of_block xW).trans rfl
  have CB' := hide CB
  have HW := hide hW
  have BW := hide bW
  clear CB hn0 hno hnn ho hw hW bW xW hlo
  go_enter Tryz.func7, Tryz.ntmps7
  go_upto_region 1 with fail
  rw [unhide HW]
  go_wp2_with fail
  refine (unhide CB').mono ?_
  clear k0 k1 k2 k3 k4
  rintro x w1 ⟨p, D, rfl, hg, hD, b1⟩
  have CN := hide (answer_ok p w1)
  have B1 := hide (below_far (unhide BW) b1)
  have HG := hide hg
  have HD := hide (fun k hk => Nat.le_trans (unhide BW).size (hD k hk))
  clear b1 hg hD
  go_wp2_with fail
  refine (unhide CN).mono ?_
  rintro x w2 ⟨rfl, b2⟩
  have B2 := hide (below_far (unhide B1) b2)
  have G2 := hide ((unhide HG).below b2)
  clear b2
  go_wp2
  refine bodyPost_ret (v := .tuple #[.pointer (some ⟨p, 0, none⟩), .int .i64 0]) (by simp [results, Tryz.results7, go_sem]) rfl ?_
  exact ⟨p, D, rfl, unhide G2, unhide HD, unhide B2⟩
end Go.Proofs.YtgllokinadjiaaaGreatDoor
namespace Go.Proofs.YtgllokinadjiaaaGreatDoor
open Go.RowKit Go.Maps
open Ww (Given)

def Pg.gn (g : Pg) : Gn := ⟨g.n, g.eng, g.base, g.ms⟩
/-- each may follow what stands ahead of it. -/
def Fit (pgs : List Pg) : Prop := ∀ k g, pgs[k]? = some g → wrongG ((pgs.take k).map Pg.gn) g.n g.eng g.base g.old g.ms = 0

theorem PRow.inside {D : Nat → Prop} {w : World} {rv : Value} {gs : List Pg} (h : PRow D w rv gs) : PRow (fun j => D j ∧ j < w.heap.size) w rv gs := by
  obtain ⟨xs, h1, h2, h3⟩ := h
  have lt : ∀ {b : Nat} {e : TypeId} {z : Nat} {v : Value} {n : Nat} {ys : List Value}, w.ownsRow b e z v n ys → ∀ k, v.ownBlock = some k → k < w.heap.size := fun ho k hk => by
    obtain ⟨-, cur, fr, hc⟩ := own_tag ho k hk
    exact heap_lt hc
  refine ⟨xs, h1, fun k e => ⟨h2 k e, lt h1 k e⟩, fun i r hi => ?_⟩
  obtain ⟨v1, v2, k1, k2⟩ := h3 i r hi
  exact ⟨v1, v2, k1, ⟨k2.old, k2.new, fun k e => ⟨k2.d1 k e, lt k2.old k e⟩, fun k e => ⟨k2.d2 k e, lt k2.new k e⟩, k2.l1, k2.l2⟩⟩
theorem Pg.five {w : World} {b n : Nat} {g : Pg} {v1 v2 : Value} (h : ∀ (j : Nat) (u : Value), (g.row v1 v2)[j]? = some u → w.cell? ⟨b, n + j, none⟩ = some u) :
    w.cell? ⟨b, n, none⟩ = some (.int .i64 g.n) ∧ w.cell? ⟨b, n + 1, none⟩ = some (.int .i64 g.eng) ∧ w.cell? ⟨b, n + 2, none⟩ = some (.int .i64 g.base) ∧ w.cell? ⟨b, n + 3, none⟩ = some v1 ∧ w.cell? ⟨b, n + 4, none⟩ = some v2 :=
  ⟨h 0 _ rfl, h 1 _ rfl, h 2 _ rfl, h 3 _ rfl, h 4 _ rfl⟩

set_option maxRecDepth 20000 in
set_option maxHeartbeats 1000000 in
theorem restored_ok (ao : Option Addr) (n cap : Nat) (bs : List Nat) (w : World) (hg : Given w ao n cap bs) (hS : Ww.Start w) (he : (parseOf bs).2 = 0) (hne : (parseOf bs).1 ≠ []) (hl : (parseOf bs).1.length ≤ 1000) (hf : Fit (parseOf bs).1) :
    Calls Tryz.prog 42 #[.slice ao n cap] w fun x w' => ∃ p D, x = .returned (.tuple #[.pointer (some ⟨p, 0, none⟩), .nilIface]) ∧ Gs D w' p ((parseOf bs).1.map Pg.gn) ∧ (∀ k, D k → w.heap.size ≤ k) ∧ Below w.heap.size w w' := by
  have CP := hide (parse_any ao n cap bs w hg hS)
  obtain ⟨P, hP⟩ : ∃ P, parseOf bs = P := ⟨_, rfl⟩
  rw [hP] at CP he hne hl hf ⊢
  obtain ⟨pgs, e⟩ := P
  simp only at he hne hl hf
  subst he
  have HF := hide hf
  obtain ⟨N, hN⟩ : ∃ N, pgs.length = N := ⟨_, rfl⟩
  have HN := hide hN
  have hN0 : N ≠ 0 := fun e => hne (List.eq_nil_of_length_eq_zero (by omega))
  have q0 : ((N : Int) == 0) = false := by simp; omega
  rw [hN] at hl
  clear hg hS hne hf hN hP
  go_enter Tryz.func42, Tryz.ntmps42
  go_wp2_with fail
  refine (unhide CP).mono ?_
  rintro x w1 ⟨b1, -, f1⟩
  obtain ⟨rv, rfl, hr⟩ := f1 (by trivial)
  obtain ⟨ro, rc, rfl, -⟩ := hr.slice
  simp only [unhide HN] at hr ⊢
  obtain ⟨g0, hg0⟩ : ∃ g, pgs[0]? = some g := ⟨_, List.getElem?_eq_getElem (by rw [unhide HN]; omega)⟩
  obtain ⟨rb, -, -, rfl, -⟩ := hr.at hg0
  clear hg0
  obtain ⟨W, hW⟩ : ∃ W, w1.alloc (.cells #[.slice none 0 0] 73) = W := ⟨_, rfl⟩
  have bW1 : Below w1.heap.size w1 W := by rw [← hW]; exact (Below.refl _ _).alloc (Nat.le_refl _) _
  have hG := gens_new w1
  rw [hW] at hG
  have HR := hide (hr.inside.below bW1)
  have HG := hide hG
  have BW := hide (below_far b1 bW1)
  have S1 : Hid (w.heap.size ≤ w1.heap.size) := hide b1.size
  have SW := hide bW1.size
  have HW := hide hW
  clear f1 b1 hr bW1 hG hW CP
  go_upto_region 7 with fail
  rw [unhide HW]
  go_wp2
  go_loopw [29, 8, 9, 2, 3] (fun i _ _ _ _ wr => ∃ k D, k ≤ N ∧ i = .int .i64 ((k : Nat) : Int) ∧ Gs D wr w1.heap.size ((pgs.take k).map Pg.gn) ∧ PRow (fun j => w.heap.size ≤ j ∧ j < w1.heap.size) wr (.slice (some ⟨rb, 0, none⟩) N rc) pgs ∧ (∀ j, D j → w1.heap.size ≤ j) ∧ Below w.heap.size w wr ∧ W.heap.size ≤ wr.heap.size) (fun i _ _ _ _ _ => N - (intOf i).toNat)
  case atStart => exact ⟨0, fun k => k = w1.heap.size, Nat.zero_le _, rfl, by simpa using unhide HG, unhide HR, fun j hj => by omega, unhide BW, Nat.le_refl _⟩
  case round =>
    obtain ⟨k, D, hk, rfl, hgs, hrow, hD, hb, hkw⟩ := hrel
    by_cases hlt : k < N
    · obtain ⟨g, hgk⟩ : ∃ g, pgs[k]? = some g := ⟨_, List.getElem?_eq_getElem (by rw [unhide HN]; exact hlt)⟩
      obtain ⟨b, v1, v2, e0, hDb, hcs, mb⟩ := hrow.at hgk
      obtain rfl : rb = b := by simpa using e0
      clear e0
      obtain ⟨xo, xc, e1, f1, -⟩ := mb.old.slice
      obtain ⟨mo, mc, e2, f2, -⟩ := mb.new.slice
      subst e1
      subst e2
      obtain ⟨c0, c1, c2, c3, c4⟩ := Pg.five hcs
      obtain ⟨V, hV, bV, xV⟩ := boxG wr g.n g.eng g.base xo mo g.old.length xc g.ms.length mc
      have CA := add_ok (hgs.below bV) (by rw [List.length_map, List.length_take]; omega) g.gn xo mo g.old.length xc g.ms.length mc g.old rfl rfl (by have := mb.l1; omega) mb.l2 (f1.1.below bV) (f2.1.below bV) (unhide HF k g hgk)
      have HT : Hid ((pgs.take k).map Pg.gn ++ [g.gn] = (pgs.take (k + 1)).map Pg.gn) := hide (by
        rw [List.take_succ_eq_append_getElem (by rw [unhide HN]; exact hlt), List.map_append]
        rw [List.getElem?_eq_some_iff] at hgk
        obtain ⟨h1, h2⟩ := hgk
        rw [h2]; rfl)
      rw [unhide HT] at CA
      have CA' := hide CA
      have k0 : V.cell? ⟨wr.heap.size, 0, none⟩ = some (.int .i64 g.n) := (cell_of_block xV).trans rfl
      have k1 : V.cell? ⟨wr.heap.size, 1, none⟩ = some (.int .i64 g.eng) := (cell_of_block xV).trans rfl
      have k2 : V.cell? ⟨wr.heap.size, 2, none⟩ = some (.int .i64 g.base) := (cell_of_block xV).trans rfl
      have k3 : V.cell? ⟨wr.heap.size, 3, none⟩ = some (.slice xo g.old.length xc) := (cell_of_block xV).trans rfl
      have k4 : V.cell? ⟨wr.heap.size, 4, none⟩ = some (.slice mo g.ms.length mc) := (cell_of_block xV).trans rfl
      have HV := hide hV
      have BV := hide bV
      have HB := hide hb
      have KW := hide hkw
      clear hkw
      have HD := hide hD
      have ROW := hide (hrow.below bV)
      have q1 : (k : Int) < (N : Int) := by omega
      have q2 : (0 : Int) ≤ (k : Int) := by omega
      clear hV bV xV hgs hrow hD hb hcs mb f1 f2 hgk CA hDb
      go_upto_region 10 with fail
      rw [unhide HV]
      clear c0 c1 c2 c3 c4
      go_wp2_with fail
      refine (unhide CA').mono ?_
      clear k0 k1 k2 k3 k4
      rintro x w2 ⟨rfl, hg2, kp2⟩
      have hv1 : w1.heap.size ≤ V.heap.size := Nat.le_trans (unhide SW) (Nat.le_trans (unhide KW) (unhide BV).size)
      have G2 := hide hg2
      have Z2 := hide kp2.size
      have D2 : Hid (∀ j, News D V w2 j → w1.heap.size ≤ j) := hide (fun j hj => by
        rcases hj with hj | hj
        · exact unhide HD j hj
        · exact Nat.le_trans hv1 hj.1)
      have R2 := hide ((unhide ROW).kp kp2 (fun j hj hd => by have := unhide HD j hd; omega))
      have B2 := hide ((below_far (unhide HB) (unhide BV)).trans (kp2.below (base := w.heap.size) (fun j hj => Nat.le_trans (unhide S1) (unhide HD j hj)) (below_far (unhide HB) (unhide BV)).size))
      clear hg2 kp2 CA' hv1
      go_wp2
      go_roundw
      case rel => exact ⟨k + 1, _, by omega, by go_num, unhide G2, unhide R2, unhide D2, unhide B2, Nat.le_trans (unhide KW) (Nat.le_trans (unhide BV).size (unhide Z2))⟩
      case measure => simp [intOf]; omega
    · obtain rfl : k = N := by omega
      have ht : pgs.take k = pgs := List.take_of_length_le (by rw [unhide HN]; exact Nat.le_refl _)
      rw [ht] at hgs
      have HGS := hide hgs
      have HD := hide hD
      have HB := hide hb
      have KW := hide hkw
      clear hkw
      clear ht hgs hD hb hrow
      go_wp2
      refine bodyPost_ret (v := .tuple #[.pointer (some ⟨w1.heap.size, 0, none⟩), .nilIface]) (by simp [results, Tryz.results42, go_sem]) rfl ?_
      exact ⟨_, D, rfl, unhide HGS, fun j hj => Nat.le_trans (unhide S1) (unhide HD j hj), unhide HB⟩
end Go.Proofs.YtgllokinadjiaaaGreatDoor
namespace Go.Proofs.YtgllokinadjiaaaGreatDoor
open Go.RowKit Go.Maps
open Ww (Given)

set_option maxRecDepth 20000 in
set_option maxHeartbeats 1000000 in
theorem load_ok (ao : Option Addr) (n cap : Nat) (bs : List Nat) (w : World) (hg : Given w ao n cap bs) (hS : Ww.Start w) (pgs : List Pg) (he : parseOf bs = (pgs, 0)) (hne : pgs ≠ []) (hl : pgs.length ≤ 1000) (hf : Fit pgs) :
    Calls Tryz.prog 24 #[.slice ao n cap] w fun x w' => ∃ p D, x = .returned (.tuple #[.pointer (some ⟨p, 0, none⟩), .int .i64 0]) ∧ Gs D w' p (pgs.map Pg.gn) ∧ (∀ k, D k → w.heap.size ≤ k) ∧ Below w.heap.size w w' := by
  have CR := restored_ok ao n cap bs w hg hS (by rw [he]) (by rw [he]; exact hne) (by rw [he]; exact hl) (by rw [he]; exact hf)
  rw [he] at CR
  have CR' := hide CR
  clear CR he hne hl hf hg hS
  go_enter Tryz.func24, Tryz.ntmps24
  go_wp2_with fail
  refine (unhide CR').mono ?_
  rintro x w1 ⟨p, D, rfl, hg, hD, b1⟩
  have CN := hide (answer_ok p w1)
  have B1 := hide b1
  have HG := hide hg
  have HD := hide hD
  clear b1 hg hD
  go_wp2_with fail
  refine (unhide CN).mono ?_
  rintro x w2 ⟨rfl, b2⟩
  have B2 := hide (below_far (unhide B1) b2)
  have G2 := hide ((unhide HG).below b2)
  clear b2
  go_wp2
  refine bodyPost_ret (v := .tuple #[.pointer (some ⟨p, 0, none⟩), .int .i64 0]) (by simp [results, Tryz.results24, go_sem]) rfl ?_
  exact ⟨p, D, rfl, unhide G2, unhide HD, unhide B2⟩
end Go.Proofs.YtgllokinadjiaaaGreatDoor
namespace Go.Proofs.YtgllokinadjiaaaGreatDoor.Ww
open Go.RowKit

theorem own_snoc {base : Nat} {w : World} {v : Value} {bs : List Nat} {x : Nat} (hx : x < 256) (hb : ∀ y ∈ bs, y < 256) (h : w.ownsRow base 5 1 v (bs.length + 1) (u8s bs ++ [Value.int .u8 (x : Int)])) : Own base w v (bs ++ [x]) := by
  refine ⟨?_, ?_⟩
  · rw [List.length_append, show u8s (bs ++ [x]) = u8s bs ++ [Value.int .u8 (x : Int)] by simp [u8s]]; exact h
  · intro y hy
    rcases List.mem_append.1 hy with h | h
    · exact hb y h
    · simp at h; omega

set_option maxRecDepth 20000 in
set_option maxHeartbeats 4000000 in
theorem rnum (base : Nat) (v : Value) (bs : List Nat) (n : Int) (w : World) (hown : Own base w v bs) (hl : bs.length ≤ 900000000) (hbase : base ≤ w.heap.size) :
    Calls Tryz.prog 65 #[v, .int .i64 n] w fun e w' => ∃ v', e = .returned v' ∧ Own base w' v' (bs ++ num8 n) ∧ Only base [5] w w' := by
  obtain ⟨i0, hi, hz0, hz1, hz2⟩ := info_parts Tryz.info5
  obtain ⟨m, hm⟩ : ∃ m : Nat, (n % 18446744073709551616).toNat = m := ⟨_, rfl⟩
  have hu : IntKind.u64.wrap n = ((m : Nat) : Int) := by rw [IntKind.wrap_u64]; omega
  have hml : m < 18446744073709551616 := by omega
  have HQ : Hid (num8 n = be8 m) := by show _ = _; unfold num8; rw [hm]
  have HO := hide hown
  clear hm hown
  go_enter Tryz.func65, Tryz.ntmps65
  go_wp2_with fail
  go_loopg [0, 5] 8 (fun g bv kv wr => ∃ j : Nat, j ≤ 8 ∧ g = 8 - j ∧ kv = .int .i64 (7 - (j : Int)) ∧ Own base wr bv (bs ++ (be8 m).take j) ∧ Only base [5] w wr)
  case atStart => exact ⟨0, by omega, by omega, rfl, by simpa using unhide HO, Only.refl _ _ _⟩
  case round =>
    obtain ⟨j, hj, hg, rfl, ho, hon⟩ := hrel
    have HG := hide hg
    have HON := hide hon
    have s1 : base ≤ wr.heap.size := Nat.le_trans hbase hon.size
    have hown := ho.1
    have HB := hide ho.2
    have hlen : (bs ++ (be8 m).take j).length ≤ 900000008 := by rw [List.length_append, List.length_take]; omega
    clear hg hon ho
    by_cases h8 : j = 8
    · subst h8
      have HW := hide hown
      clear hown
      go_wp2
      go_ret
      exact ⟨_, rfl, by rw [unhide HQ]; exact ⟨unhide HW, unhide HB⟩, unhide HON⟩
    · have hc : j = 0 ∨ j = 1 ∨ j = 2 ∨ j = 3 ∨ j = 4 ∨ j = 5 ∨ j = 6 ∨ j = 7 := by omega
      rcases hc with rfl | rfl | rfl | rfl | rfl | rfl | rfl | rfl
      · obtain ⟨bb, hbb⟩ : ∃ bb, bs ++ (be8 m).take 0 = bb := ⟨_, rfl⟩
        rw [hbb] at hown hlen
        have HBB := hide hbb
        clear hbb h8 hj
        go_wp2_with (at_builtin; refine wpList_append_own _ rfl (.tmp 10) (.tmp 17) 53 rfl base 5 i0 (.int .u8 0) 1 1 Tryz.underlying53 hi hz0 hz1 hz2 rfl (by decide) _ _ _ rfl (hown.alloc _) ⟨wr.heap.size, 0, none⟩ 1 1 _ rfl rfl news_at (one1 _) (by unfold maxLen; omega) (by omega) (by simp; omega) ?_)
        intro v2 w2 own2 g2 _
        have k2 : Only base [5] wr w2 := ((Only.refl base [5] wr).alloc s1 _).own (hown.alloc _) g2 (by simp; omega) (Nat.le_refl _) (by simp)
        have e : (m : Int) / 72057594037927936 = ((m / 72057594037927936 % 256 : Nat) : Int) := by omega
        rw [e] at own2
        have O2 := hide (own_snoc (x := m / 72057594037927936 % 256) (by omega) (by rw [← unhide HBB]; exact unhide HB) own2)
        have K2 := hide ((unhide HON).trans k2)
        clear own2 g2 k2 hown e
        go_wp2
        go_roundg 7
        case measure => have := unhide HG; omega
        case rel => exact ⟨1, by omega, rfl, by first | rfl | simp, by rw [show bs ++ (be8 m).take 1 = (bs ++ (be8 m).take 0) ++ [m / 72057594037927936 % 256] by rw [List.append_assoc]; rfl, unhide HBB]; exact unhide O2, unhide K2⟩
      · obtain ⟨bb, hbb⟩ : ∃ bb, bs ++ (be8 m).take 1 = bb := ⟨_, rfl⟩
        rw [hbb] at hown hlen
        have HBB := hide hbb
        clear hbb h8 hj
        go_wp2_with (at_builtin; refine wpList_append_own _ rfl (.tmp 10) (.tmp 17) 53 rfl base 5 i0 (.int .u8 0) 1 1 Tryz.underlying53 hi hz0 hz1 hz2 rfl (by decide) _ _ _ rfl (hown.alloc _) ⟨wr.heap.size, 0, none⟩ 1 1 _ rfl rfl news_at (one1 _) (by unfold maxLen; omega) (by omega) (by simp; omega) ?_)
        intro v2 w2 own2 g2 _
        have k2 : Only base [5] wr w2 := ((Only.refl base [5] wr).alloc s1 _).own (hown.alloc _) g2 (by simp; omega) (Nat.le_refl _) (by simp)
        have e : (m : Int) / 281474976710656 % 256 = ((m / 281474976710656 % 256 : Nat) : Int) := by omega
        rw [e] at own2
        have O2 := hide (own_snoc (x := m / 281474976710656 % 256) (by omega) (by rw [← unhide HBB]; exact unhide HB) own2)
        have K2 := hide ((unhide HON).trans k2)
        clear own2 g2 k2 hown e
        go_wp2
        go_roundg 6
        case measure => have := unhide HG; omega
        case rel => exact ⟨2, by omega, rfl, by first | rfl | simp, by rw [show bs ++ (be8 m).take 2 = (bs ++ (be8 m).take 1) ++ [m / 281474976710656 % 256] by rw [List.append_assoc]; rfl, unhide HBB]; exact unhide O2, unhide K2⟩
      · obtain ⟨bb, hbb⟩ : ∃ bb, bs ++ (be8 m).take 2 = bb := ⟨_, rfl⟩
        rw [hbb] at hown hlen
        have HBB := hide hbb
        clear hbb h8 hj
        go_wp2_with (at_builtin; refine wpList_append_own _ rfl (.tmp 10) (.tmp 17) 53 rfl base 5 i0 (.int .u8 0) 1 1 Tryz.underlying53 hi hz0 hz1 hz2 rfl (by decide) _ _ _ rfl (hown.alloc _) ⟨wr.heap.size, 0, none⟩ 1 1 _ rfl rfl news_at (one1 _) (by unfold maxLen; omega) (by omega) (by simp; omega) ?_)
        intro v2 w2 own2 g2 _
        have k2 : Only base [5] wr w2 := ((Only.refl base [5] wr).alloc s1 _).own (hown.alloc _) g2 (by simp; omega) (Nat.le_refl _) (by simp)
        have e : (m : Int) / 1099511627776 % 256 = ((m / 1099511627776 % 256 : Nat) : Int) := by omega
        rw [e] at own2
        have O2 := hide (own_snoc (x := m / 1099511627776 % 256) (by omega) (by rw [← unhide HBB]; exact unhide HB) own2)
        have K2 := hide ((unhide HON).trans k2)
        clear own2 g2 k2 hown e
        go_wp2
        go_roundg 5
        case measure => have := unhide HG; omega
        case rel => exact ⟨3, by omega, rfl, by first | rfl | simp, by rw [show bs ++ (be8 m).take 3 = (bs ++ (be8 m).take 2) ++ [m / 1099511627776 % 256] by rw [List.append_assoc]; rfl, unhide HBB]; exact unhide O2, unhide K2⟩
      · obtain ⟨bb, hbb⟩ : ∃ bb, bs ++ (be8 m).take 3 = bb := ⟨_, rfl⟩
        rw [hbb] at hown hlen
        have HBB := hide hbb
        clear hbb h8 hj
        go_wp2_with (at_builtin; refine wpList_append_own _ rfl (.tmp 10) (.tmp 17) 53 rfl base 5 i0 (.int .u8 0) 1 1 Tryz.underlying53 hi hz0 hz1 hz2 rfl (by decide) _ _ _ rfl (hown.alloc _) ⟨wr.heap.size, 0, none⟩ 1 1 _ rfl rfl news_at (one1 _) (by unfold maxLen; omega) (by omega) (by simp; omega) ?_)
        intro v2 w2 own2 g2 _
        have k2 : Only base [5] wr w2 := ((Only.refl base [5] wr).alloc s1 _).own (hown.alloc _) g2 (by simp; omega) (Nat.le_refl _) (by simp)
        have e : (m : Int) / 4294967296 % 256 = ((m / 4294967296 % 256 : Nat) : Int) := by omega
        rw [e] at own2
        have O2 := hide (own_snoc (x := m / 4294967296 % 256) (by omega) (by rw [← unhide HBB]; exact unhide HB) own2)
        have K2 := hide ((unhide HON).trans k2)
        clear own2 g2 k2 hown e
        go_wp2
        go_roundg 4
        case measure => have := unhide HG; omega
        case rel => exact ⟨4, by omega, rfl, by first | rfl | simp, by rw [show bs ++ (be8 m).take 4 = (bs ++ (be8 m).take 3) ++ [m / 4294967296 % 256] by rw [List.append_assoc]; rfl, unhide HBB]; exact unhide O2, unhide K2⟩
      · obtain ⟨bb, hbb⟩ : ∃ bb, bs ++ (be8 m).take 4 = bb := ⟨_, rfl⟩
        rw [hbb] at hown hlen
        have HBB := hide hbb
        clear hbb h8 hj
        go_wp2_with (at_builtin; refine wpList_append_own _ rfl (.tmp 10) (.tmp 17) 53 rfl base 5 i0 (.int .u8 0) 1 1 Tryz.underlying53 hi hz0 hz1 hz2 rfl (by decide) _ _ _ rfl (hown.alloc _) ⟨wr.heap.size, 0, none⟩ 1 1 _ rfl rfl news_at (one1 _) (by unfold maxLen; omega) (by omega) (by simp; omega) ?_)
        intro v2 w2 own2 g2 _
        have k2 : Only base [5] wr w2 := ((Only.refl base [5] wr).alloc s1 _).own (hown.alloc _) g2 (by simp; omega) (Nat.le_refl _) (by simp)
        have e : (m : Int) / 16777216 % 256 = ((m / 16777216 % 256 : Nat) : Int) := by omega
        rw [e] at own2
        have O2 := hide (own_snoc (x := m / 16777216 % 256) (by omega) (by rw [← unhide HBB]; exact unhide HB) own2)
        have K2 := hide ((unhide HON).trans k2)
        clear own2 g2 k2 hown e
        go_wp2
        go_roundg 3
        case measure => have := unhide HG; omega
        case rel => exact ⟨5, by omega, rfl, by first | rfl | simp, by rw [show bs ++ (be8 m).take 5 = (bs ++ (be8 m).take 4) ++ [m / 16777216 % 256] by rw [List.append_assoc]; rfl, unhide HBB]; exact unhide O2, unhide K2⟩
      · obtain ⟨bb, hbb⟩ : ∃ bb, bs ++ (be8 m).take 5 = bb := ⟨_, rfl⟩
        rw [hbb] at hown hlen
        have HBB := hide hbb
        clear hbb h8 hj
        go_wp2_with (at_builtin; refine wpList_append_own _ rfl (.tmp 10) (.tmp 17) 53 rfl base 5 i0 (.int .u8 0) 1 1 Tryz.underlying53 hi hz0 hz1 hz2 rfl (by decide) _ _ _ rfl (hown.alloc _) ⟨wr.heap.size, 0, none⟩ 1 1 _ rfl rfl news_at (one1 _) (by unfold maxLen; omega) (by omega) (by simp; omega) ?_)
        intro v2 w2 own2 g2 _
        have k2 : Only base [5] wr w2 := ((Only.refl base [5] wr).alloc s1 _).own (hown.alloc _) g2 (by simp; omega) (Nat.le_refl _) (by simp)
        have e : (m : Int) / 65536 % 256 = ((m / 65536 % 256 : Nat) : Int) := by omega
        rw [e] at own2
        have O2 := hide (own_snoc (x := m / 65536 % 256) (by omega) (by rw [← unhide HBB]; exact unhide HB) own2)
        have K2 := hide ((unhide HON).trans k2)
        clear own2 g2 k2 hown e
        go_wp2
        go_roundg 2
        case measure => have := unhide HG; omega
        case rel => exact ⟨6, by omega, rfl, by first | rfl | simp, by rw [show bs ++ (be8 m).take 6 = (bs ++ (be8 m).take 5) ++ [m / 65536 % 256] by rw [List.append_assoc]; rfl, unhide HBB]; exact unhide O2, unhide K2⟩
      · obtain ⟨bb, hbb⟩ : ∃ bb, bs ++ (be8 m).take 6 = bb := ⟨_, rfl⟩
        rw [hbb] at hown hlen
        have HBB := hide hbb
        clear hbb h8 hj
        go_wp2_with (at_builtin; refine wpList_append_own _ rfl (.tmp 10) (.tmp 17) 53 rfl base 5 i0 (.int .u8 0) 1 1 Tryz.underlying53 hi hz0 hz1 hz2 rfl (by decide) _ _ _ rfl (hown.alloc _) ⟨wr.heap.size, 0, none⟩ 1 1 _ rfl rfl news_at (one1 _) (by unfold maxLen; omega) (by omega) (by simp; omega) ?_)
        intro v2 w2 own2 g2 _
        have k2 : Only base [5] wr w2 := ((Only.refl base [5] wr).alloc s1 _).own (hown.alloc _) g2 (by simp; omega) (Nat.le_refl _) (by simp)
        have e : (m : Int) / 256 % 256 = ((m / 256 % 256 : Nat) : Int) := by omega
        rw [e] at own2
        have O2 := hide (own_snoc (x := m / 256 % 256) (by omega) (by rw [← unhide HBB]; exact unhide HB) own2)
        have K2 := hide ((unhide HON).trans k2)
        clear own2 g2 k2 hown e
        go_wp2
        go_roundg 1
        case measure => have := unhide HG; omega
        case rel => exact ⟨7, by omega, rfl, by first | rfl | simp, by rw [show bs ++ (be8 m).take 7 = (bs ++ (be8 m).take 6) ++ [m / 256 % 256] by rw [List.append_assoc]; rfl, unhide HBB]; exact unhide O2, unhide K2⟩
      · obtain ⟨bb, hbb⟩ : ∃ bb, bs ++ (be8 m).take 7 = bb := ⟨_, rfl⟩
        rw [hbb] at hown hlen
        have HBB := hide hbb
        clear hbb h8 hj
        go_wp2_with (at_builtin; refine wpList_append_own _ rfl (.tmp 10) (.tmp 17) 53 rfl base 5 i0 (.int .u8 0) 1 1 Tryz.underlying53 hi hz0 hz1 hz2 rfl (by decide) _ _ _ rfl (hown.alloc _) ⟨wr.heap.size, 0, none⟩ 1 1 _ rfl rfl news_at (one1 _) (by unfold maxLen; omega) (by omega) (by simp; omega) ?_)
        intro v2 w2 own2 g2 _
        have k2 : Only base [5] wr w2 := ((Only.refl base [5] wr).alloc s1 _).own (hown.alloc _) g2 (by simp; omega) (Nat.le_refl _) (by simp)
        have e : (m : Int) % 256 = ((m % 256 : Nat) : Int) := by omega
        rw [e] at own2
        have O2 := hide (own_snoc (x := m % 256) (by omega) (by rw [← unhide HBB]; exact unhide HB) own2)
        have K2 := hide ((unhide HON).trans k2)
        clear own2 g2 k2 hown e
        go_wp2
        go_roundg 0
        case measure => have := unhide HG; omega
        case rel => exact ⟨8, by omega, rfl, by first | rfl | simp, by rw [show bs ++ (be8 m).take 8 = (bs ++ (be8 m).take 7) ++ [m % 256] by rw [List.append_assoc]; rfl, unhide HBB]; exact unhide O2, unhide K2⟩
end Go.Proofs.YtgllokinadjiaaaGreatDoor.Ww
