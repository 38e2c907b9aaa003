/- synodallaw8's List, Plain: contracts. -/
import Derived.Test.YtgllokinadjiaaaKRow
import Derived.Test.YtgllokinadjiaaaKPure
namespace Go.Proofs.Ytgllokinadjiaaa
open Go.RowKit

/-- the bit k of a number. -/
def bitOf (bits : Int) (k : Nat) : Bool := Go.bits BinOp.and IntKind.i64 (bits / 2 ^ k) 1 == 1
theorem lst_yes {β : Nat → Bool} {k : Nat} (h7 : (lst β k).length < 7) (h : β k = true) : lst β (k + 1) = lst β k ++ [(k : Int)] := if_pos ⟨h7, h⟩
theorem lst_no {β : Nat → Bool} {k : Nat} (h : β k = false) : lst β (k + 1) = lst β k := if_neg (fun e => by rw [h] at e; cases e.2)
theorem all_yes {β : Nat → Bool} {k : Nat} (h : β k = true) : allOf β (k + 1) = allOf β k ++ [(k : Int)] := if_pos h
theorem all_no {β : Nat → Bool} {k : Nat} (h : β k = false) : allOf β (k + 1) = allOf β k := if_neg (fun e => by rw [h] at e; cases e)
theorem one_int (w : World) (y : Int) : IntsR (w.alloc (.cells #[.int .i64 y] 3)) (some ⟨w.heap.size, 0, none⟩) [y] := fun i hi => by
  simp at hi; subst hi
  refine ⟨_, rfl, ?_⟩
  have := news_at (W := w) (cs := #[.int .i64 y]) (t := 3) 0 _ rfl
  exact this
theorem ret_slice {ao ao' : Option Addr} {n n' c : Nat} (h : n = n') (k : ao = ao') : Ending.returned (.slice ao n c) = .returned (.slice ao' n' c) := by rw [h, k]

set_option maxHeartbeats 1000000 in
theorem list_any (bits : Int) (w : World) : Calls Try.prog 19 #[.int .i64 bits] w fun e w' => ∃ v, e = .returned v ∧ Ir w.heap.size w' v (lst (bitOf bits) 9) ∧ Below w.heap.size w w' := by
  go_enter Try.func19, Try.ntmps19
  go_wp2_with fail
  go_loopw [4, 3] (fun i s wr => ∃ (k : Nat), k ≤ 9 ∧ i = .int .i64 k ∧ Ir w.heap.size wr s (lst (bitOf bits) k) ∧ Below w.heap.size w wr) (fun i _ _ => 9 - (intOf i).toNat)
  case atStart => exact ⟨0, Nat.zero_le _, rfl, Ir.nil _ _, Below.refl _ _⟩
  case round =>
    obtain ⟨k, hk, rfl, hown, hbel⟩ := hrel
    obtain ⟨ao, cap, rfl, hfr, hcap, _⟩ := hown.slice
    obtain ⟨l, hll⟩ : ∃ l, lst (bitOf bits) k = l := ⟨_, rfl⟩
    rw [hll] at hown hfr hcap
    rw [hll]
    obtain ⟨L, hL⟩ : ∃ L, l.length = L := ⟨_, rfl⟩
    rw [hL] at hown hcap
    rw [hL]
    have HLL := hide hll
    have HL := hide hL
    have HO := hide hown
    have BEL := hide hbel
    have sz := hbel.size
    have HCAP := hide hcap
    clear hown hfr hbel hll hL hcap
    by_cases hlt : k < 9
    · have q : (k : Int) < 9 := by omega
      by_cases h7 : (L : Int) < 7
      · by_cases hb : (Go.bits BinOp.and IntKind.i64 (bits / 2 ^ k) 1 == 1) = true
        · have YES := hide (lst_yes (β := bitOf bits) (k := k) (by rw [unhide HLL, unhide HL]; omega) hb)
          rw [unhide HLL] at YES
          go_wp2_with (at_builtin; refine wpList_app rfl (.tmp 19) (.tmp 21) rfl w.heap.size _ l rfl ((unhide HO).below ((Below.refl _ _).alloc (Nat.le_refl _) _)) (some ⟨wr.heap.size, 0, none⟩) 1 1 [(k : Int)] rfl rfl (one_int _ _) (by rw [unhide HL]; omega) (by simp; omega) ?_)
          intro v' w' own' g'
          have OWN := hide own'
          have B' := hide (((unhide HO).below ((Below.refl _ _).alloc (Nat.le_refl _) (.cells #[.int .i64 (k : Int)] 3))).grown g' ((unhide BEL).alloc sz _) (by simp; omega))
          clear own' g'
          go_wp2
          go_roundw
          case rel => exact ⟨k + 1, by omega, by go_num, by rw [unhide YES]; exact unhide OWN, unhide B'⟩
          case measure => simp [intOf]; omega
        · have hb : (Go.bits BinOp.and IntKind.i64 (bits / 2 ^ k) 1 == 1) = false := by simpa using hb
          have NO := hide (lst_no (β := bitOf bits) (k := k) hb)
          rw [unhide HLL] at NO
          go_wp2
          go_roundw
          case rel => exact ⟨k + 1, by omega, by go_num, by rw [unhide NO]; exact unhide HO, unhide BEL⟩
          case measure => simp [intOf]; omega
      · have FULL := hide (lst_full (bitOf bits) (k := k) (by rw [unhide HLL, unhide HL]; omega) (9 - k))
        rw [unhide HLL, show k + (9 - k) = 9 by omega] at FULL
        go_wp2
        go_ret
        exact ⟨_, rfl, by rw [unhide FULL]; exact unhide HO, unhide BEL⟩
    · obtain rfl : k = 9 := by omega
      go_wp2
      go_ret
      exact ⟨_, rfl, by rw [unhide HLL]; exact unhide HO, unhide BEL⟩
end Go.Proofs.Ytgllokinadjiaaa
