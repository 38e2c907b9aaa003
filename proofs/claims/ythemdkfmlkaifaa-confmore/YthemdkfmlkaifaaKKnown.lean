/- synodallaw8's known: a contract. -/
import Derived.Test.YthemdkfmlkaifaaKPlain
namespace Go.Proofs.Ythemdkfmlkaifaa
open Go.RowKit

theorem made_ints (w : World) (cs : Array Value) (ys : List Int) (hc : cs.toList = i64s ys) : IntsR (w.alloc (.cells cs 3)) (some ⟨w.heap.size, 0, none⟩) ys := fun i hi => by
  refine ⟨_, rfl, news_at i _ ?_⟩
  rw [hc, i64s, List.getElem?_map, List.getElem?_eq_getElem hi, List.getD_eq_getElem?_getD, List.getElem?_eq_getElem hi]; rfl

set_option maxHeartbeats 1000000 in
theorem known_any (w : World) : Calls Try.prog 9 #[] w fun e w' => e = .returned (.bool true) ∧ Below w.heap.size w w' := by
  obtain ⟨W1, hW1⟩ : ∃ W1, w.alloc (.cells #[.int .i64 1, .int .i64 2, .int .i64 3] 3) = W1 := ⟨_, rfl⟩
  have b1 : Below w.heap.size w W1 := by rw [← hW1]; exact (Below.refl _ w).alloc (Nat.le_refl _) _
  have i1 : IntsR W1 (some ⟨w.heap.size, 0, none⟩) [1, 2, 3] := by rw [← hW1]; exact made_ints w _ _ rfl
  have s1 : W1.heap.size = w.heap.size + 1 := by rw [← hW1]; simp
  obtain ⟨W2, hW2⟩ : ∃ W2, W1.alloc (.cells #[.int .i64 1, .int .i64 3] 3) = W2 := ⟨_, rfl⟩
  have b2 : Below W1.heap.size W1 W2 := by rw [← hW2]; exact (Below.refl _ W1).alloc (Nat.le_refl _) _
  have i2 : IntsR W2 (some ⟨w.heap.size + 1, 0, none⟩) [1, 3] := by rw [← hW2, ← s1]; exact made_ints W1 _ _ rfl
  have Q1 := hide (quorum_any none (some ⟨w.heap.size, 0, none⟩) 0 3 0 3 [] [1, 2, 3] rfl rfl (some ⟨w.heap.size + 1, 0, none⟩) 2 2 [1, 3] rfl (by decide) (by decide) (by decide) W2 (IntsR.nil _ _) (i1.below b2) i2)
  rw [show quorumOf [] [1, 2, 3] [1, 3] = true by decide] at Q1
  have HW : Hid ((w.alloc (.cells #[.int .i64 1, .int .i64 2, .int .i64 3] 3)).alloc (.cells #[.int .i64 1, .int .i64 3] 3) = W2) := by rw [hW1]; exact hW2
  have B2 := hide (b1.trans (b2.mono b1.size))
  clear hW1 hW2 b1 b2 i1 i2 s1
  go_enter Try.func9, Try.ntmps9
  go_wp2_with fail
  rw [unhide HW]
  refine (unhide Q1).mono ?_
  rintro e w3 ⟨rfl, b3⟩
  have B3 := hide ((unhide B2).trans (b3.mono (unhide B2).size))
  obtain ⟨W4, hW4⟩ : ∃ W4, w3.alloc (.cells #[.int .i64 1, .int .i64 2, .int .i64 3] 3) = W4 := ⟨_, rfl⟩
  have b4 : Below w3.heap.size w3 W4 := by rw [← hW4]; exact (Below.refl _ w3).alloc (Nat.le_refl _) _
  have i4 : IntsR W4 (some ⟨w3.heap.size, 0, none⟩) [1, 2, 3] := by rw [← hW4]; exact made_ints w3 _ _ rfl
  have s4 : W4.heap.size = w3.heap.size + 1 := by rw [← hW4]; simp
  obtain ⟨W5, hW5⟩ : ∃ W5, W4.alloc (.cells #[.int .i64 2] 3) = W5 := ⟨_, rfl⟩
  have b5 : Below W4.heap.size W4 W5 := by rw [← hW5]; exact (Below.refl _ W4).alloc (Nat.le_refl _) _
  have i5 : IntsR W5 (some ⟨w3.heap.size + 1, 0, none⟩) [2] := by rw [← hW5, ← s4]; exact made_ints W4 _ _ rfl
  have Q2 := hide (quorum_any none (some ⟨w3.heap.size, 0, none⟩) 0 3 0 3 [] [1, 2, 3] rfl rfl (some ⟨w3.heap.size + 1, 0, none⟩) 1 1 [2] rfl (by decide) (by decide) (by decide) W5 (IntsR.nil _ _) (i4.below b5) i5)
  rw [show quorumOf [] [1, 2, 3] [2] = false by decide] at Q2
  have HW5 : Hid ((w3.alloc (.cells #[.int .i64 1, .int .i64 2, .int .i64 3] 3)).alloc (.cells #[.int .i64 2] 3) = W5) := by rw [hW4]; exact hW5
  have B5 := hide ((unhide B3).trans ((b4.trans (b5.mono b4.size)).mono (unhide B3).size))
  clear hW4 hW5 b3 b4 b5 i4 i5 s4 Q1 HW B2
  go_wp2_with fail
  rw [unhide HW5]
  refine (unhide Q2).mono ?_
  rintro e w6 ⟨rfl, b6⟩
  have B6 := hide ((unhide B5).trans (b6.mono (unhide B5).size))
  clear b6 Q2 HW5
  go_wp2
  go_ret
  exact ⟨rfl, unhide B6⟩
end Go.Proofs.Ythemdkfmlkaifaa
