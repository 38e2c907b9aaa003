/- seal: begun, answer, New: contracts. -/
import Derived.Test.YtgllokinadjiaaaSAdd3
namespace Go.Proofs.Ytgllokinadjiaaa
open Go.RowKit Go.Maps

theorem wrongOf_vals (b : Bool) (xs : List Int) : wrongOf b xs = 0 ∨ wrongOf b xs = 1 ∨ wrongOf b xs = 2 ∨ wrongOf b xs = 4 := by
  unfold wrongOf
  split
  · simp
  · split
    · simp
    · split <;> simp
theorem checkOf_vals (o n : List Int) : checkOf o n = 0 ∨ checkOf o n = 1 ∨ checkOf o n = 2 ∨ checkOf o n = 4 := by
  unfold checkOf
  split
  · exact wrongOf_vals _ _
  · exact wrongOf_vals _ _
theorem wrongG_vals (gs : List Gn) (n e b : Int) (o m : List Int) : wrongG gs n e b o m = 0 ∨ wrongG gs n e b o m = 1 ∨ wrongG gs n e b o m = 2 ∨ wrongG gs n e b o m = 4 := by
  unfold wrongG wrongB
  have := checkOf_vals o m
  split
  · simp
  · split
    · rcases this with h | h | h | h <;> simp [h]
    · split
      · simp
      · split <;> simp
theorem face_num {c : Int} (h : c = 1 ∨ c = 2 ∨ c = 4) : faceOf (fun m => c == m) = c := by
  rcases h with rfl | rfl | rfl <;> rfl
theorem face_nil : faceOf (fun _ => false) = 0 := rfl
theorem neqRefNil (q : Nat) (w : World) : (binOp .neq 47 (refV q) .nilIface).run Try.prog w = .ok (.bool true) w := by kernel_rfl
/-- the box of generations that are none yet. -/
theorem gens_new (w : World) : Gs (fun k => k = w.heap.size) (w.alloc (.cells #[.slice none 0 0] 55)) w.heap.size [] :=
  ⟨⟨_, box_at _ _, GRow.nil _ _⟩, rfl, fun k hk => by subst hk; simp⟩

set_option maxRecDepth 20000 in
set_option maxHeartbeats 2000000 in
theorem begun_no (w : World) (n e b : Int) (xo mo : Option Addr) (xn xc m mc : Nat) (old new : List Int) (hno : old.length = xn) (hnn : new.length = m) (hlo : xn ≤ 1000000000) (hln : m ≤ 1000000000) (ho : IntsR w xo old) (hw : IntsR w mo new) (hn0 : wrongG [] n e b old new ≠ 0) :
    Calls Try.prog 18 #[.agg #[.int .i64 n, .int .i64 e, .int .i64 b, .slice xo xn xc, .slice mo m mc]] w fun x w' => ∃ q, x = .returned (.tuple #[.pointer none, refV q]) ∧ Ref w' q (wrongG [] n e b old new) ∧ Below w.heap.size w w' := by
  obtain ⟨W0, hW0, b0, x0⟩ := boxG w n e b xo mo xn xc m mc
  obtain ⟨W, hW⟩ : ∃ W, W0.alloc (.cells #[.slice none 0 0] 55) = W := ⟨_, rfl⟩
  have b1 : Below W0.heap.size W0 W := by rw [← hW]; exact (Below.refl _ _).alloc (Nat.le_refl _) _
  have s0 : W0.heap.size = w.heap.size + 1 := by rw [← hW0]; simp
  have hG := gens_new W0
  rw [hW] at hG
  have bW := below_far b0 b1
  have CA := add_no hG (by simp) n e b xo mo xn xc m mc old new hno hnn hlo hln (ho.below bW) (hw.below bW) hn0
  rw [s0] at CA
  obtain ⟨r, hr⟩ : ∃ r, wrongG [] n e b old new = r := ⟨_, rfl⟩
  rw [hr] at CA ⊢
  have xW := Below.stay b1 x0
  have k0 : W.cell? ⟨w.heap.size, 0, none⟩ = some (.int .i64 n) := (cell_of_block xW).trans rfl
  have k1 : W.cell? ⟨w.heap.size, 1, none⟩ = some (.int .i64 e) := (cell_of_block xW).trans rfl
  have k2 : W.cell? ⟨w.heap.size, 2, none⟩ = some (.int .i64 b) := (cell_of_block xW).trans rfl
  have k3 : W.cell? ⟨w.heap.size, 3, none⟩ = some (.slice xo xn xc) := (cell_of_block xW).trans rfl
  have k4 : W.cell? ⟨w.heap.size, 4, none⟩ = some (.slice mo m mc) := (cell_of_block xW).trans rfl
  have HW : Hid ((w.alloc (.cells #[.int .i64 n, .int .i64 e, .int .i64 b, .slice xo xn xc, .slice mo m mc] 32)).alloc (.cells #[.slice none 0 0] 55) = W) := by rw [hW0]; exact hW
  have CA' := hide CA
  have BW := hide bW
  have NN := neqRefNil
  clear CA hr hn0 hG hW hW0 b0 b1 x0 xW bW s0 hno hnn ho hw hlo hln
  go_enter Try.func18, Try.ntmps18
  go_upto_region 2 with fail
  rw [unhide HW]
  go_wp2_with fail
  refine (unhide CA').mono ?_
  clear k0 k1 k2 k3 k4
  rintro x w1 ⟨q, rfl, hq, b1⟩
  have HQ := hide hq
  have B1 := hide (below_far (unhide BW) b1)
  clear b1 hq
  unfold refV at *
  go_wp2
  refine bodyPost_ret (v := .tuple #[.pointer none, .iface 63 (.pointer (some ⟨q, 0, none⟩))]) (by simp [results, Try.results18, go_sem]) rfl ?_
  exact ⟨q, rfl, unhide HQ, unhide B1⟩
set_option maxRecDepth 20000 in
set_option maxHeartbeats 2000000 in
theorem begun_ok (w : World) (g : Gn) (xo mo : Option Addr) (xn xc m mc : Nat) (old : List Int) (hno : old.length = xn) (hnn : g.ms.length = m) (hlo : xn ≤ 1000000000) (hln : m ≤ 1000000) (ho : IntsR w xo old) (hw : IntsR w mo g.ms) (hn0 : wrongG [] g.n g.eng g.base old g.ms = 0) :
    Calls Try.prog 18 #[.agg #[.int .i64 g.n, .int .i64 g.eng, .int .i64 g.base, .slice xo xn xc, .slice mo m mc]] w fun x w' => ∃ p D, x = .returned (.tuple #[.pointer (some ⟨p, 0, none⟩), .nilIface]) ∧ Gs D w' p [g] ∧ (∀ k, D k → w.heap.size ≤ k) ∧ Below w.heap.size w w' := by
  obtain ⟨W0, hW0, b0, x0⟩ := boxG w g.n g.eng g.base xo mo xn xc m mc
  obtain ⟨W, hW⟩ : ∃ W, W0.alloc (.cells #[.slice none 0 0] 55) = W := ⟨_, rfl⟩
  have b1 : Below W0.heap.size W0 W := by rw [← hW]; exact (Below.refl _ _).alloc (Nat.le_refl _) _
  have s0 : W0.heap.size = w.heap.size + 1 := by rw [← hW0]; simp
  have hG := gens_new W0
  rw [hW] at hG
  have bW := below_far b0 b1
  have CA := add_ok hG (by simp) g xo mo xn xc m mc old hno hnn hlo hln (ho.below bW) (hw.below bW) hn0
  rw [s0] at CA
  have xW := Below.stay b1 x0
  have k0 : W.cell? ⟨w.heap.size, 0, none⟩ = some (.int .i64 g.n) := (cell_of_block xW).trans rfl
  have k1 : W.cell? ⟨w.heap.size, 1, none⟩ = some (.int .i64 g.eng) := (cell_of_block xW).trans rfl
  have k2 : W.cell? ⟨w.heap.size, 2, none⟩ = some (.int .i64 g.base) := (cell_of_block xW).trans rfl
  have k3 : W.cell? ⟨w.heap.size, 3, none⟩ = some (.slice xo xn xc) := (cell_of_block xW).trans rfl
  have k4 : W.cell? ⟨w.heap.size, 4, none⟩ = some (.slice mo m mc) := (cell_of_block xW).trans rfl
  have HW : Hid ((w.alloc (.cells #[.int .i64 g.n, .int .i64 g.eng, .int .i64 g.base, .slice xo xn xc, .slice mo m mc] 32)).alloc (.cells #[.slice none 0 0] 55) = W) := by rw [hW0]; exact hW
  have CA' := hide CA
  have BW := hide bW
  clear CA hn0 hG hW hW0 b0 b1 x0 xW bW s0 hno hnn ho hw hlo
  go_enter Try.func18, Try.ntmps18
  go_upto_region 2 with fail
  rw [unhide HW]
  go_wp2_with fail
  refine (unhide CA').mono ?_
  clear k0 k1 k2 k3 k4
  rintro x w1 ⟨rfl, hg, kp⟩
  have HG := hide hg
  have B1 := hide ((unhide BW).trans (kp.below (base := w.heap.size) (fun k hk => by subst hk; exact Nat.le_succ _) (unhide BW).size))
  have S1 := hide (unhide BW).size
  clear kp hg
  go_wp2
  refine bodyPost_ret (v := .tuple #[.pointer (some ⟨w.heap.size + 1, 0, none⟩), .nilIface]) (by simp [results, Try.results18, go_sem]) rfl ?_
  exact ⟨_, _, rfl, unhide HG, fun k hk => by
    rcases hk with hk | hk
    · subst hk; exact Nat.le_succ _
    · exact Nat.le_trans (unhide S1) hk.1, unhide B1⟩
set_option maxRecDepth 20000 in
theorem answer_no (pv : Value) (q : Nat) (c : Int) (hc : c = 1 ∨ c = 2 ∨ c = 4) (w : World) (h : Ref w q c) : Calls Try.prog 17 #[pv, refV q] w fun x w' => x = .returned (.tuple #[.pointer none, .int .i64 c]) ∧ Below w.heap.size w w' := by
  have CN := number_says (refV q) _ w (Says.ref h)
  rw [face_num hc] at CN
  have CN' := hide CN
  have NN := neqRefNil
  clear CN h hc
  unfold refV at *
  go_enter Try.func17, Try.ntmps17
  go_wp2_with fail
  refine (unhide CN').mono ?_
  rintro x w1 ⟨rfl, b1⟩
  have B1 := hide b1
  clear b1
  go_wp2
  refine bodyPost_ret (v := .tuple #[.pointer none, .int .i64 c]) (by simp [results, Try.results17, go_sem]) rfl ?_
  exact ⟨rfl, unhide B1⟩
set_option maxRecDepth 20000 in
theorem answer_ok (p : Nat) (w : World) : Calls Try.prog 17 #[.pointer (some ⟨p, 0, none⟩), .nilIface] w fun x w' => x = .returned (.tuple #[.pointer (some ⟨p, 0, none⟩), .int .i64 0]) ∧ Below w.heap.size w w' := by
  go_enter Try.func17, Try.ntmps17
  go_wp2
  refine bodyPost_ret (v := .tuple #[.pointer (some ⟨p, 0, none⟩), .int .i64 0]) (by simp [results, Try.results17, go_sem]) rfl ?_
  exact ⟨rfl, Below.refl _ _⟩
set_option maxRecDepth 20000 in
set_option maxHeartbeats 2000000 in
theorem new_no (w : World) (n e b : Int) (xo mo : Option Addr) (xn xc m mc : Nat) (old new : List Int) (hno : old.length = xn) (hnn : new.length = m) (hlo : xn ≤ 1000000000) (hln : m ≤ 1000000000) (ho : IntsR w xo old) (hw : IntsR w mo new) (hn0 : wrongG [] n e b old new ≠ 0) :
    Calls Try.prog 7 #[.agg #[.int .i64 n, .int .i64 e, .int .i64 b, .slice xo xn xc, .slice mo m mc]] w fun x w' => x = .returned (.tuple #[.pointer none, .int .i64 (wrongG [] n e b old new)]) ∧ Below w.heap.size w w' := by
  obtain ⟨W, hW, bW, xW⟩ := boxG w n e b xo mo xn xc m mc
  have CB := begun_no W n e b xo mo xn xc m mc old new hno hnn hlo hln (ho.below bW) (hw.below bW) hn0
  have hv := wrongG_vals [] n e b old new
  obtain ⟨r, hr⟩ : ∃ r, wrongG [] n e b old new = r := ⟨_, rfl⟩
  rw [hr] at CB hn0 hv ⊢
  have hv' : r = 1 ∨ r = 2 ∨ r = 4 := by omega
  have HV := hide hv'
  have k0 : W.cell? ⟨w.heap.size, 0, none⟩ = some (.int .i64 n) := (cell_of_block xW).trans rfl
  have k1 : W.cell? ⟨w.heap.size, 1, none⟩ = some (.int .i64 e) := (cell_of_block xW).trans rfl
  have k2 : W.cell? ⟨w.heap.size, 2, none⟩ = some (.int .i64 b) := (cell_of_block xW).trans rfl
  have k3 : W.cell? ⟨w.heap.size, 3, none⟩ = some (.slice xo xn xc) := (cell_of_block xW).trans rfl
  have k4 : W.cell? ⟨w.heap.size, 4, none⟩ = some (.slice mo m mc) := (cell_of_block xW).trans rfl
  have CB' := hide CB
  have HW := hide hW
  have BW := hide bW
  clear CB hr hn0 hv hv' hno hnn ho hw hW bW xW hlo hln
  go_enter Try.func7, Try.ntmps7
  go_upto_region 1 with fail
  rw [unhide HW]
  go_wp2_with fail
  refine (unhide CB').mono ?_
  clear k0 k1 k2 k3 k4
  rintro x w1 ⟨q, rfl, hq, b1⟩
  have CN := hide (answer_no (.pointer none) q r (unhide HV) w1 hq)
  have B1 := hide (below_far (unhide BW) b1)
  clear b1 hq
  go_wp2_with fail
  refine (unhide CN).mono ?_
  rintro x w2 ⟨rfl, b2⟩
  have B2 := hide (below_far (unhide B1) b2)
  clear b2
  go_wp2
  refine bodyPost_ret (v := .tuple #[.pointer none, .int .i64 r]) (by simp [results, Try.results7, go_sem]) rfl ?_
  exact ⟨rfl, unhide B2⟩
set_option maxRecDepth 20000 in
set_option maxHeartbeats 2000000 in
theorem new_ok (w : World) (g : Gn) (xo mo : Option Addr) (xn xc m mc : Nat) (old : List Int) (hno : old.length = xn) (hnn : g.ms.length = m) (hlo : xn ≤ 1000000000) (hln : m ≤ 1000000) (ho : IntsR w xo old) (hw : IntsR w mo g.ms) (hn0 : wrongG [] g.n g.eng g.base old g.ms = 0) :
    Calls Try.prog 7 #[.agg #[.int .i64 g.n, .int .i64 g.eng, .int .i64 g.base, .slice xo xn xc, .slice mo m mc]] w fun x w' => ∃ p D, x = .returned (.tuple #[.pointer (some ⟨p, 0, none⟩), .int .i64 0]) ∧ Gs D w' p [g] ∧ (∀ k, D k → w.heap.size ≤ k) ∧ Below w.heap.size w w' := by
  obtain ⟨W, hW, bW, xW⟩ := boxG w g.n g.eng g.base xo mo xn xc m mc
  have CB := begun_ok W g xo mo xn xc m mc old hno hnn hlo hln (ho.below bW) (hw.below bW) hn0
  have k0 : W.cell? ⟨w.heap.size, 0, none⟩ = some (.int .i64 g.n) := (cell_of_block xW).trans rfl
  have k1 : W.cell? ⟨w.heap.size, 1, none⟩ = some (.int .i64 g.eng) := (cell_of_block xW).trans rfl
  have k2 : W.cell? ⟨w.heap.size, 2, none⟩ = some (.int .i64 g.base) := (cell_of_block xW).trans rfl
  have k3 : W.cell? ⟨w.heap.size, 3, none⟩ = some (.slice xo xn xc) := (cell_of_block xW).trans rfl
  have k4 : W.cell? ⟨w.heap.size, 4, none⟩ = some (.slice mo m mc) := (cell_of_block xW).trans rfl
  have CB' := hide CB
  have HW := hide hW
  have BW := hide bW
  clear CB hn0 hno hnn ho hw hW bW xW hlo
  go_enter Try.func7, Try.ntmps7
  go_upto_region 1 with fail
  rw [unhide HW]
  go_wp2_with fail
  refine (unhide CB').mono ?_
  clear k0 k1 k2 k3 k4
  rintro x w1 ⟨p, D, rfl, hg, hD, b1⟩
  have CN := hide (answer_ok p w1)
  have B1 := hide (below_far (unhide BW) b1)
  have HG := hide hg
  have HD := hide (fun k hk => Nat.le_trans (unhide BW).size (hD k hk))
  clear b1 hg hD
  go_wp2_with fail
  refine (unhide CN).mono ?_
  rintro x w2 ⟨rfl, b2⟩
  have B2 := hide (below_far (unhide B1) b2)
  have G2 := hide ((unhide HG).below b2)
  clear b2
  go_wp2
  refine bodyPost_ret (v := .tuple #[.pointer (some ⟨p, 0, none⟩), .int .i64 0]) (by simp [results, Try.results7, go_sem]) rfl ?_
  exact ⟨p, D, rfl, unhide G2, unhide HD, unhide B2⟩
end Go.Proofs.Ytgllokinadjiaaa
