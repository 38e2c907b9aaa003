/- LinkStamps: the walk. -/
import Derived.Test.YtkanolmcaoecgaaLSpec
import Derived.Test.YtkanolmcaoecgaaLArgs
namespace Go.Proofs.Ytkanolmcaoecgaa
open Go.RowKit Go.Maps

/-- six numbers. -/
def six (f : Nat → Nat) : Array Value := #[.int .i64 (f 0 : Int), .int .i64 (f 1 : Int), .int .i64 (f 2 : Int), .int .i64 (f 3 : Int), .int .i64 (f 4 : Int), .int .i64 (f 5 : Int)]
theorem six_at (f : Nat → Nat) (k : Nat) (hk : k < 6) : (six f)[k]? = some (.int .i64 (f k : Int)) := by
  obtain rfl | rfl | rfl | rfl | rfl | rfl : k = 0 ∨ k = 1 ∨ k = 2 ∨ k = 3 ∨ k = 4 ∨ k = 5 := by omega
  all_goals rfl
theorem six_set (f : Nat → Nat) (k v : Nat) (hk : k < 6) : (six f).setIfInBounds k (.int .i64 (v : Int)) = six (fun j => if j = k then v else f j) := by
  obtain rfl | rfl | rfl | rfl | rfl | rfl : k = 0 ∨ k = 1 ∨ k = 2 ∨ k = 3 ∨ k = 4 ∨ k = 5 := by omega
  all_goals rfl

/-- the box of six, and the link, go alike. -/
def StAt (base : Nat) (w0 w : World) (A p s q : Nat) (life : Int) (k : Nat) : Prop :=
  ∃ sent : Int → Nat, w.heap[A]? = some (.cells (six fun j => sent (j : Int)) 45 (0, 0)) ∧ Lk w p s q life sent (fun _ => Hd.none) 0 k ∧ Below base w0 w

set_option maxRecDepth 20000 in
set_option maxHeartbeats 1000000 in
theorem stamps_walk (x0 : Int) (ao : Option Addr) (n cap : Nat) (ys : List Int) (w : World) (hy : ys.length = n) (hm : n ≤ maxLen) (hi : Ints w ao ys) :
    Calls Try.prog 6 #[.int .i64 x0, .slice ao n cap] w fun e w' => e = .returned (.bool true) ∧ Below w.heap.size w w' := by
  obtain ⟨t, ht⟩ : ∃ t : Nat, x0 % 1000 = (t : Int) := ⟨(x0 % 1000).toNat, by omega⟩
  have ht5 : t < 1000 := by omega
  have W0 := hide (fun w => show Calls Try.prog 9 #[.int .i64 x0, .int .i64 1000] w fun ev w' => ev = .returned (.int .i64 (t : Int)) ∧ w' = w by rw [← ht]; exact within_any x0 1000 w (by decide) (by decide))
  obtain ⟨T, hT⟩ : ∃ T, t + 1 = T := ⟨_, rfl⟩
  have eT : (1 : Int) + (t : Int) = (T : Int) := by omega
  have KN := hide (known_any w)
  have HY := hide hy
  have HI := hide hi
  have hm' : n ≤ 9223372036854775807 := by unfold maxLen at hm; omega
  clear ht hT hy hi hm
  go_enter Try.func6, Try.ntmps6
  go_wp2_with fail
  refine (unhide KN).mono ?_
  rintro e w1 ⟨rfl, b1⟩
  have B1 := hide b1
  clear b1 KN
  go_wp2_with fail
  refine (unhide W0 _).mono ?_
  rintro e w2 ⟨rfl, rfl⟩
  have NW := hide (new_at 2 (T : Int) w2)
  go_wp2_with fail
  refine (unhide NW).mono ?_
  rintro e w3 ⟨⟨p, s, q, rfl, l3, hp, hs, hq⟩, b3⟩
  have s1 := (unhide B1).size
  have PB : Hid (w.heap.size ≤ p ∧ w.heap.size ≤ s ∧ w.heap.size ≤ q) := ⟨Nat.le_trans s1 hp, Nat.le_trans s1 hs, Nat.le_trans s1 hq⟩
  obtain ⟨W, hW⟩ : ∃ W, w3.alloc (.cells (six fun _ => 0) 45) = W := ⟨_, rfl⟩
  have bW : Below w3.heap.size w3 W := by rw [← hW]; exact (Below.refl _ w3).alloc (Nat.le_refl _) _
  have xW : W.heap[w3.heap.size]? = some (.cells (six fun _ => 0) 45 (0, 0)) := by rw [← hW]; exact heap_alloc_new _ _
  have hA : w.heap.size ≤ w3.heap.size := Nat.le_trans s1 b3.size
  have S0 : Hid (StAt w.heap.size w W w3.heap.size p s q (T : Int) 0) := ⟨fun _ => 0, xW, l3.below bW, ((unhide B1).trans (b3.mono s1)).trans (bW.mono hA)⟩
  have AB : Hid (w.heap.size ≤ w3.heap.size) := hA
  have AP : Hid (w3.heap.size ≠ p ∧ w3.heap.size ≠ s ∧ w3.heap.size ≠ q) := ⟨fun e => by have := l3.lt.1; omega, fun e => by have := l3.lt.2.1; omega, fun e => by have := l3.lt.2.2; omega⟩
  obtain ⟨A, hAA⟩ : ∃ A, w3.heap.size = A := ⟨_, rfl⟩
  rw [hAA] at S0 AP AB
  have HAA := hide hAA
  have HW := hide hW
  clear l3 hp hs hq b3 s1 bW xW hA hW NW B1 W0 hAA
  go_upto_region 7 with fail
  rw [show w3.alloc (.cells #[.int .i64 0, .int .i64 0, .int .i64 0, .int .i64 0, .int .i64 0, .int .i64 0] 45) = W from unhide HW, unhide HAA]
  clear HW HAA
  go_loopg [7] 60 (fun gg iv wr => ∃ k : Nat, k + gg = 60 ∧ k ≤ n ∧ iv = .int .i64 (k : Int) ∧ StAt w.heap.size w wr A p s q (T : Int) k)
  case atStart => exact ⟨0, by omega, Nat.zero_le _, rfl, unhide S0⟩
  case round =>
    obtain ⟨k, hgk, hkn, rfl, hst⟩ := hrel
    have hk60 : k ≤ 60 := by omega
    obtain ⟨sent, hbox, hlk, hlow⟩ := hst
    have hsz := hlow.size
    by_cases hlt : k < n
    · by_cases h60 : k < 60
      · obtain ⟨y, hyk⟩ : ∃ y, ys[k]? = some y := ⟨_, List.getElem?_eq_getElem (by rw [unhide HY]; exact hlt)⟩
        obtain ⟨a, rfl, ca⟩ := ((unhide HI).sub hlow) k y hyk
        obtain ⟨j, hj⟩ : ∃ j : Nat, y % 6 = (j : Int) := ⟨(y % 6).toNat, by omega⟩
        have hj6 : j < 6 := by omega
        have WJ := hide (fun w => show Calls Try.prog 9 #[.int .i64 y, .int .i64 6] w fun ev w' => ev = .returned (.int .i64 (j : Int)) ∧ w' = w by rw [← hj]; exact within_any y 6 w (by decide) (by decide))
        have hs60 : sent (j : Int) ≤ k := by obtain ⟨Ds, Dh, a1, a2, a3, a4, a5, a6, a7, a8, a9⟩ := hlk; exact a7 _
        obtain ⟨v, hv⟩ : ∃ v, sent (j : Int) = v := ⟨_, rfl⟩
        obtain ⟨m, hm⟩ : ∃ m, v + 1 = m := ⟨_, rfl⟩
        have e1 : (v : Int) + 1 = (m : Int) := by omega
        have wrm : IntKind.i64.wrap (m : Int) = (m : Int) := by
          simp only [IntKind.wrap, IntKind.bits, IntKind.signed]
          simp
          omega
        have cA : wr.cell? ⟨A, j, none⟩ = some (.int .i64 (v : Int)) := by rw [← hv]; exact bcell hbox (six_at _ j hj6)
        have fA : wr.frozen? ⟨A, j, none⟩ = false := free_of_block hbox
        obtain ⟨W1, hW1⟩ : ∃ W1, wr.setCell ⟨A, j, none⟩ (.int .i64 (m : Int)) = W1 := ⟨_, rfl⟩
        have k1 : ∀ b, b ≠ A → W1.heap[b]? = wr.heap[b]? := fun b hb => by rw [← hW1]; exact Below.heap_setCell wr ⟨A, j, none⟩ _ b hb
        have bA : W1.heap[A]? = some (.cells (six fun i => up sent (j : Int) m (i : Int)) 45 (0, 0)) := by
          rw [← hW1, setCell_block hbox, six_set _ _ _ hj6]
          congr 3
          funext i
          unfold up
          by_cases e : i = j
          · rw [if_pos e, if_pos (by rw [e])]
          · rw [if_neg e, if_neg (by omega)]
        obtain ⟨n1, n2, n3⟩ := unhide AP
        have l1 : Lk W1 p s q (T : Int) sent (fun _ => Hd.none) 0 k := hlk.kept (k1 p n1.symm) (k1 s n2.symm) (k1 q n3.symm)
        have low1 : Below w.heap.size w W1 := by rw [← hW1]; exact hlow.setCell (p := ⟨A, j, none⟩) (unhide AB) _
        have ST := stamp_any (base := w.heap.size) (j : Int) W1 (wf_nat (by omega)) (by omega) (unhide PB) low1.size l1
        rw [hv, hm] at ST
        have HST := hide ST
        have HW1 := hide hW1
        have HBA := hide bA
        have HL1 := hide low1
        have HG := hide hgk
        have hkI : (k : Int) < (n : Int) := by omega
        have hkJ : (k : Int) < 60 := by omega
        clear hlk hbox hlow hyk hj hv hm ST hW1 bA l1 low1 k1 hgk S0 hs60 n1 n2 n3
        go_wp2_with fail
        refine (unhide WJ _).mono ?_
        rintro e w4 ⟨rfl, rfl⟩
        go_upto_region 11 with fail
        rw [unhide HW1]
        clear HW1 cA fA ca
        go_wp2_with fail
        refine (unhide HST).mono ?_
        rintro e w5 ⟨rfl, l5, k5⟩
        obtain ⟨n1, n2, n3⟩ := unhide AP
        have b5 : w5.heap[A]? = some (.cells (six fun i => up sent (j : Int) m (i : Int)) 45 (0, 0)) := (k5.2 A (blk_lt' (unhide HBA)) (fun h => by rcases h with h | h | h; exact n1 h; exact n2 h; exact n3 h)).trans (unhide HBA)
        have c5 : w5.cell? ⟨A, j, none⟩ = some (.int .i64 (m : Int)) := bcell b5 ((six_at _ j hj6).trans (by show some (Value.int .i64 ((up sent (j : Int) m (j : Int) : Nat) : Int)) = _; unfold up; rw [if_pos rfl]))
        have L5 := hide (show StAt w.heap.size w w5 A p s q (T : Int) (k + 1) from ⟨_, b5, l5, (unhide HL1).trans k5.1⟩)
        clear n1 n2 n3 b5 l5 k5 HST HBA HL1
        go_wp2
        go_roundg (60 - (k + 1))
        case measure => have := unhide HG; omega
        case rel => exact ⟨k + 1, by omega, by omega, by go_num, unhide L5⟩
      · have h60I : ¬ (k : Int) < 60 := by omega
        have hkI : (k : Int) < (n : Int) := by omega
        have RF := hide (refused_any wr hlk)
        have HL := hide hlow
        clear hlk hbox hlow hgk S0
        go_wp2_with fail
        refine (unhide RF).mono ?_
        rintro e w4 ⟨rfl, rfl⟩
        go_wp2
        go_ret
        exact ⟨rfl, unhide HL⟩
    · have hkI : ¬ (k : Int) < (n : Int) := by omega
      have RF := hide (refused_any wr hlk)
      have HL := hide hlow
      clear hlk hbox hlow hgk S0
      go_wp2_with fail
      refine (unhide RF).mono ?_
      rintro e w4 ⟨rfl, rfl⟩
      go_wp2
      go_ret
      exact ⟨rfl, unhide HL⟩
end Go.Proofs.Ytkanolmcaoecgaa
