/- synodallaw17's known: a contract. -/
import Derived.Test.YtgllokinadjiaaaSSeal
import Derived.Test.YtgllokinadjiaaaSAt
namespace Go.Proofs.Ytgllokinadjiaaa
open Go.RowKit Go.Maps

theorem eq_ptr_nil (p : Nat) (w : World) : (binOp .eql 24 (.pointer (some ⟨p, 0, none⟩)) (.pointer none)).run Try.prog w = .ok (.bool false) w := by kernel_rfl
theorem ints_at (w : World) (y : Int) : IntsR (w.alloc (.cells #[.int .i64 y] 3)) (some ⟨w.heap.size, 0, none⟩) [y] := one_int w y
def g1 : Gn := ⟨1, 1, 0, [0]⟩
def g2 : Gn := ⟨2, 2, 5, [0]⟩
theorem known_new : wrongG [] g1.n g1.eng g1.base [] g1.ms = 0 := by decide
theorem known_seal : sealNo [g1] g1 5 2 [] [0] = 0 := by decide
theorem known_gs : [g1] ++ [(⟨IntKind.i64.wrap (g1.n + 1), 2, 5, [0]⟩ : Gn)] = [g1, g2] := rfl
set_option maxRecDepth 20000 in
set_option maxHeartbeats 4000000 in
theorem known_any (w : World) : Calls Try.prog 6 #[] w fun e w' => e = .returned (.bool true) ∧ Below w.heap.size w w' := by
  obtain ⟨W0, hW0⟩ : ∃ W, w.alloc (.cells #[.int .i64 0] 3) = W := ⟨_, rfl⟩
  obtain ⟨W, hW⟩ : ∃ W, W0.alloc (.cells #[.slice none 0 0, .slice (some ⟨w.heap.size, 0, none⟩) 1 1] 29) = W := ⟨_, rfl⟩
  have b0 : Below w.heap.size w W0 := by rw [← hW0]; exact (Below.refl _ _).alloc (Nat.le_refl _) _
  have b1 : Below W0.heap.size W0 W := by rw [← hW]; exact (Below.refl _ _).alloc (Nat.le_refl _) _
  have s0 : W0.heap.size = w.heap.size + 1 := by rw [← hW0]; simp
  have bW := below_far b0 b1
  have xW : W.heap[w.heap.size + 1]? = some (.cells #[.slice none 0 0, .slice (some ⟨w.heap.size, 0, none⟩) 1 1] 29 (0, 0)) := by rw [← s0, ← hW]; exact box_at _ _
  have iW : IntsR W (some ⟨w.heap.size, 0, none⟩) [0] := by
    have := ints_at w 0
    rw [hW0] at this
    exact this.below b1
  have HW : Hid ((w.alloc (.cells #[.int .i64 0] 3)).alloc (.cells #[.slice none 0 0, .slice (some ⟨w.heap.size, 0, none⟩) 1 1] 29) = W) := by rw [hW0]; exact hW
  have CN := hide (new_ok W g1 none (some ⟨w.heap.size, 0, none⟩) 0 0 1 1 [] rfl rfl (by decide) (by decide) (IntsR.nil _ _) iW known_new)
  unfold g1 at CN
  simp only at CN
  have k0 : W.cell? ⟨w.heap.size + 1, 0, none⟩ = some (.slice none 0 0) := (cell_of_block xW).trans rfl
  have k1 : W.cell? ⟨w.heap.size + 1, 1, none⟩ = some (.slice (some ⟨w.heap.size, 0, none⟩) 1 1) := (cell_of_block xW).trans rfl
  have XW := hide xW
  have BW := hide bW
  have IW := hide iW
  have QN := eq_ptr_nil
  have FN := field_n
  clear hW hW0 b0 b1 s0 bW xW iW
  go_enter Try.func6, Try.ntmps6
  go_upto_region 2 with fail
  rw [unhide HW]
  go_wp2_with fail
  refine (unhide CN).mono ?_
  clear k0 k1
  rintro e w1 ⟨p, D, rfl, hg, hD, b1⟩
  have k0 : w1.cell? ⟨w.heap.size + 1, 0, none⟩ = some (.slice none 0 0) := (cell_of_block (Below.stay b1 (unhide XW))).trans rfl
  have k1 : w1.cell? ⟨w.heap.size + 1, 1, none⟩ = some (.slice (some ⟨w.heap.size, 0, none⟩) 1 1) := (cell_of_block (Below.stay b1 (unhide XW))).trans rfl
  have CS := hide (seal_ok (l := g1) hg (by decide) rfl 5 2 none (some ⟨w.heap.size, 0, none⟩) 0 0 1 1 [] [0] rfl rfl (by decide) (by decide) (IntsR.nil _ _) ((unhide IW).below b1) known_seal)
  have B1 := hide (below_far (unhide BW) b1)
  have HD := hide (fun k hk => Nat.le_trans (unhide BW).size (hD k hk))
  clear hg hD b1 CN
  go_wp2_with fail
  refine (unhide CS).mono ?_
  clear k0 k1
  rintro e w2 ⟨rfl, hg, kp⟩
  replace hg : Gs (News D w1 w2) w2 p [g1, g2] := hg
  have B2 := hide ((unhide B1).trans (kp.below (base := w.heap.size) (unhide HD) (unhide B1).size))
  have HG := hide hg
  have C5 := hide (at_any hg (by decide) (by decide) 5)
  rw [show atOf [g1, g2] 5 = g1 from rfl] at C5
  unfold gnV g1 at C5
  simp only at C5
  clear hg kp CS
  go_wp2_with fail
  refine (unhide C5).mono ?_
  rintro e w3 ⟨mo, mc, rfl, -, b3⟩
  have B3 := hide (below_far (unhide B2) b3)
  have C6 := hide (at_any ((unhide HG).below b3) (by decide) (by decide) 6)
  rw [show atOf [g1, g2] 6 = g2 from rfl] at C6
  unfold gnV g2 at C6
  simp only at C6
  clear b3 C5
  go_wp2_with fail
  refine (unhide C6).mono ?_
  rintro e w4 ⟨mo', mc', rfl, -, b4⟩
  have B4 := hide (below_far (unhide B3) b4)
  clear b4 C6
  go_wp2
  go_ret
  exact ⟨rfl, unhide B4⟩
end Go.Proofs.Ytgllokinadjiaaa
