/- synodalref2.num, synodalref2.list: contracts that say which blocks are left alone. -/
import Derived.Test.YtgllokinadjiaaaGreatDoorWwRK
namespace Go.Proofs.YtgllokinadjiaaaGreatDoor.Ww
open Go.RowKit

set_option maxRecDepth 20000 in
set_option maxHeartbeats 4000000 in
theorem xgnumK (base : Nat) (v : Value) (bs : List Nat) (n : Int) (w : World) (hown : Own base w v bs) (hl : bs.length ≤ 900000000) (hbase : base ≤ w.heap.size) :
    Calls Tryz.prog 41 #[v, .int .i64 n] w fun e w' => ∃ v', e = .returned v' ∧ Own base w' v' (bs ++ num8 n) ∧ KO base v v' w w' := by
  obtain ⟨m, hm⟩ : ∃ m : Nat, (n % 18446744073709551616).toNat = m := ⟨_, rfl⟩
  have hu : IntKind.u64.wrap n = ((m : Nat) : Int) := by rw [IntKind.wrap_u64]; omega
  have hml : m < 18446744073709551616 := by omega
  have HQ : Hid (num8 n = be8 m) := by show _ = _; unfold num8; rw [hm]
  have HO := hide hown
  clear hm hown
  go_enter Tryz.func41, Tryz.ntmps41
  go_wp2_with fail
  go_loopg [0, 5] 8 (fun g bv kv wr => ∃ j : Nat, j ≤ 8 ∧ g = 8 - j ∧ kv = .int .i64 (7 - (j : Int)) ∧ Own base wr bv (bs ++ (be8 m).take j) ∧ KO base v bv w wr)
  case atStart => exact ⟨0, by omega, by omega, rfl, by simpa using unhide HO, KO.refl _ _ _⟩
  case round =>
    obtain ⟨j, hj, hg, rfl, ho, hon⟩ := hrel
    have HG := hide hg
    have HON := hide hon
    have s1 : base ≤ wr.heap.size := Nat.le_trans hbase hon.size
    have hown := ho.1
    have HB := hide ho.2
    have hlen : (bs ++ (be8 m).take j).length ≤ 900000008 := by rw [List.length_append, List.length_take]; omega
    clear hg hon ho
    by_cases h8 : j = 8
    · subst h8
      have HW := hide hown
      clear hown
      go_wp2
      go_ret
      exact ⟨_, rfl, by rw [unhide HQ]; exact ⟨unhide HW, unhide HB⟩, unhide HON⟩
    · have hc : j = 0 ∨ j = 1 ∨ j = 2 ∨ j = 3 ∨ j = 4 ∨ j = 5 ∨ j = 6 ∨ j = 7 := by omega
      rcases hc with rfl | rfl | rfl | rfl | rfl | rfl | rfl | rfl
      · obtain ⟨bb, hbb⟩ : ∃ bb, bs ++ (be8 m).take 0 = bb := ⟨_, rfl⟩
        rw [hbb] at hown hlen
        have HBB := hide hbb
        clear hbb h8 hj
        have HE : Hid ((m : Int) / 72057594037927936 = ((m / 72057594037927936 % 256 : Nat) : Int)) := by show _ = _; omega
        have OW : Hid (Own base wr _ bb) := ⟨hown, by rw [← unhide HBB]; exact unhide HB⟩
        clear hown
        go_wp2_with (at_builtin; refine wpList_byte rfl (.tmp 10) (.tmp 17) rfl base _ bb rfl (unhide OW) (m / 72057594037927936 % 256) (by omega) _ (unhide HE) rfl (by omega) s1 ?_)
        intro v2 w2 o2 k2
        have O2 := hide o2
        have K2 := hide ((unhide HON).trans k2)
        clear o2 k2 OW
        go_wp2
        go_roundg 7
        case measure => have := unhide HG; omega
        case rel => exact ⟨1, by omega, rfl, by first | rfl | simp, by rw [show bs ++ (be8 m).take 1 = (bs ++ (be8 m).take 0) ++ [m / 72057594037927936 % 256] by rw [List.append_assoc]; rfl, unhide HBB]; exact unhide O2, unhide K2⟩
      · obtain ⟨bb, hbb⟩ : ∃ bb, bs ++ (be8 m).take 1 = bb := ⟨_, rfl⟩
        rw [hbb] at hown hlen
        have HBB := hide hbb
        clear hbb h8 hj
        have HE : Hid ((m : Int) / 281474976710656 % 256 = ((m / 281474976710656 % 256 : Nat) : Int)) := by show _ = _; omega
        have OW : Hid (Own base wr _ bb) := ⟨hown, by rw [← unhide HBB]; exact unhide HB⟩
        clear hown
        go_wp2_with (at_builtin; refine wpList_byte rfl (.tmp 10) (.tmp 17) rfl base _ bb rfl (unhide OW) (m / 281474976710656 % 256) (by omega) _ (unhide HE) rfl (by omega) s1 ?_)
        intro v2 w2 o2 k2
        have O2 := hide o2
        have K2 := hide ((unhide HON).trans k2)
        clear o2 k2 OW
        go_wp2
        go_roundg 6
        case measure => have := unhide HG; omega
        case rel => exact ⟨2, by omega, rfl, by first | rfl | simp, by rw [show bs ++ (be8 m).take 2 = (bs ++ (be8 m).take 1) ++ [m / 281474976710656 % 256] by rw [List.append_assoc]; rfl, unhide HBB]; exact unhide O2, unhide K2⟩
      · obtain ⟨bb, hbb⟩ : ∃ bb, bs ++ (be8 m).take 2 = bb := ⟨_, rfl⟩
        rw [hbb] at hown hlen
        have HBB := hide hbb
        clear hbb h8 hj
        have HE : Hid ((m : Int) / 1099511627776 % 256 = ((m / 1099511627776 % 256 : Nat) : Int)) := by show _ = _; omega
        have OW : Hid (Own base wr _ bb) := ⟨hown, by rw [← unhide HBB]; exact unhide HB⟩
        clear hown
        go_wp2_with (at_builtin; refine wpList_byte rfl (.tmp 10) (.tmp 17) rfl base _ bb rfl (unhide OW) (m / 1099511627776 % 256) (by omega) _ (unhide HE) rfl (by omega) s1 ?_)
        intro v2 w2 o2 k2
        have O2 := hide o2
        have K2 := hide ((unhide HON).trans k2)
        clear o2 k2 OW
        go_wp2
        go_roundg 5
        case measure => have := unhide HG; omega
        case rel => exact ⟨3, by omega, rfl, by first | rfl | simp, by rw [show bs ++ (be8 m).take 3 = (bs ++ (be8 m).take 2) ++ [m / 1099511627776 % 256] by rw [List.append_assoc]; rfl, unhide HBB]; exact unhide O2, unhide K2⟩
      · obtain ⟨bb, hbb⟩ : ∃ bb, bs ++ (be8 m).take 3 = bb := ⟨_, rfl⟩
        rw [hbb] at hown hlen
        have HBB := hide hbb
        clear hbb h8 hj
        have HE : Hid ((m : Int) / 4294967296 % 256 = ((m / 4294967296 % 256 : Nat) : Int)) := by show _ = _; omega
        have OW : Hid (Own base wr _ bb) := ⟨hown, by rw [← unhide HBB]; exact unhide HB⟩
        clear hown
        go_wp2_with (at_builtin; refine wpList_byte rfl (.tmp 10) (.tmp 17) rfl base _ bb rfl (unhide OW) (m / 4294967296 % 256) (by omega) _ (unhide HE) rfl (by omega) s1 ?_)
        intro v2 w2 o2 k2
        have O2 := hide o2
        have K2 := hide ((unhide HON).trans k2)
        clear o2 k2 OW
        go_wp2
        go_roundg 4
        case measure => have := unhide HG; omega
        case rel => exact ⟨4, by omega, rfl, by first | rfl | simp, by rw [show bs ++ (be8 m).take 4 = (bs ++ (be8 m).take 3) ++ [m / 4294967296 % 256] by rw [List.append_assoc]; rfl, unhide HBB]; exact unhide O2, unhide K2⟩
      · obtain ⟨bb, hbb⟩ : ∃ bb, bs ++ (be8 m).take 4 = bb := ⟨_, rfl⟩
        rw [hbb] at hown hlen
        have HBB := hide hbb
        clear hbb h8 hj
        have HE : Hid ((m : Int) / 16777216 % 256 = ((m / 16777216 % 256 : Nat) : Int)) := by show _ = _; omega
        have OW : Hid (Own base wr _ bb) := ⟨hown, by rw [← unhide HBB]; exact unhide HB⟩
        clear hown
        go_wp2_with (at_builtin; refine wpList_byte rfl (.tmp 10) (.tmp 17) rfl base _ bb rfl (unhide OW) (m / 16777216 % 256) (by omega) _ (unhide HE) rfl (by omega) s1 ?_)
        intro v2 w2 o2 k2
        have O2 := hide o2
        have K2 := hide ((unhide HON).trans k2)
        clear o2 k2 OW
        go_wp2
        go_roundg 3
        case measure => have := unhide HG; omega
        case rel => exact ⟨5, by omega, rfl, by first | rfl | simp, by rw [show bs ++ (be8 m).take 5 = (bs ++ (be8 m).take 4) ++ [m / 16777216 % 256] by rw [List.append_assoc]; rfl, unhide HBB]; exact unhide O2, unhide K2⟩
      · obtain ⟨bb, hbb⟩ : ∃ bb, bs ++ (be8 m).take 5 = bb := ⟨_, rfl⟩
        rw [hbb] at hown hlen
        have HBB := hide hbb
        clear hbb h8 hj
        have HE : Hid ((m : Int) / 65536 % 256 = ((m / 65536 % 256 : Nat) : Int)) := by show _ = _; omega
        have OW : Hid (Own base wr _ bb) := ⟨hown, by rw [← unhide HBB]; exact unhide HB⟩
        clear hown
        go_wp2_with (at_builtin; refine wpList_byte rfl (.tmp 10) (.tmp 17) rfl base _ bb rfl (unhide OW) (m / 65536 % 256) (by omega) _ (unhide HE) rfl (by omega) s1 ?_)
        intro v2 w2 o2 k2
        have O2 := hide o2
        have K2 := hide ((unhide HON).trans k2)
        clear o2 k2 OW
        go_wp2
        go_roundg 2
        case measure => have := unhide HG; omega
        case rel => exact ⟨6, by omega, rfl, by first | rfl | simp, by rw [show bs ++ (be8 m).take 6 = (bs ++ (be8 m).take 5) ++ [m / 65536 % 256] by rw [List.append_assoc]; rfl, unhide HBB]; exact unhide O2, unhide K2⟩
      · obtain ⟨bb, hbb⟩ : ∃ bb, bs ++ (be8 m).take 6 = bb := ⟨_, rfl⟩
        rw [hbb] at hown hlen
        have HBB := hide hbb
        clear hbb h8 hj
        have HE : Hid ((m : Int) / 256 % 256 = ((m / 256 % 256 : Nat) : Int)) := by show _ = _; omega
        have OW : Hid (Own base wr _ bb) := ⟨hown, by rw [← unhide HBB]; exact unhide HB⟩
        clear hown
        go_wp2_with (at_builtin; refine wpList_byte rfl (.tmp 10) (.tmp 17) rfl base _ bb rfl (unhide OW) (m / 256 % 256) (by omega) _ (unhide HE) rfl (by omega) s1 ?_)
        intro v2 w2 o2 k2
        have O2 := hide o2
        have K2 := hide ((unhide HON).trans k2)
        clear o2 k2 OW
        go_wp2
        go_roundg 1
        case measure => have := unhide HG; omega
        case rel => exact ⟨7, by omega, rfl, by first | rfl | simp, by rw [show bs ++ (be8 m).take 7 = (bs ++ (be8 m).take 6) ++ [m / 256 % 256] by rw [List.append_assoc]; rfl, unhide HBB]; exact unhide O2, unhide K2⟩
      · obtain ⟨bb, hbb⟩ : ∃ bb, bs ++ (be8 m).take 7 = bb := ⟨_, rfl⟩
        rw [hbb] at hown hlen
        have HBB := hide hbb
        clear hbb h8 hj
        have HE : Hid ((m : Int) % 256 = ((m % 256 : Nat) : Int)) := by show _ = _; omega
        have OW : Hid (Own base wr _ bb) := ⟨hown, by rw [← unhide HBB]; exact unhide HB⟩
        clear hown
        go_wp2_with (at_builtin; refine wpList_byte rfl (.tmp 10) (.tmp 17) rfl base _ bb rfl (unhide OW) (m % 256) (by omega) _ (unhide HE) rfl (by omega) s1 ?_)
        intro v2 w2 o2 k2
        have O2 := hide o2
        have K2 := hide ((unhide HON).trans k2)
        clear o2 k2 OW
        go_wp2
        go_roundg 0
        case measure => have := unhide HG; omega
        case rel => exact ⟨8, by omega, rfl, by first | rfl | simp, by rw [show bs ++ (be8 m).take 8 = (bs ++ (be8 m).take 7) ++ [m % 256] by rw [List.append_assoc]; rfl, unhide HBB]; exact unhide O2, unhide K2⟩
end Go.Proofs.YtgllokinadjiaaaGreatDoor.Ww
