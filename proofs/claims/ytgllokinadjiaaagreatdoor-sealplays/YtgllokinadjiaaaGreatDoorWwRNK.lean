/- synodalref2.num, synodalref2.list: contracts that say which blocks are left alone. -/
import Derived.Test.YtgllokinadjiaaaGreatDoorWwRK
namespace Go.Proofs.YtgllokinadjiaaaGreatDoor.Ww
open Go.RowKit

set_option maxRecDepth 20000 in
set_option maxHeartbeats 4000000 in
theorem rnumK (base : Nat) (v : Value) (bs : List Nat) (n : Int) (w : World) (hown : Own base w v bs) (hl : bs.length ≤ 900000000) (hbase : base ≤ w.heap.size) :
    Calls Tryz.prog 65 #[v, .int .i64 n] w fun e w' => ∃ v', e = .returned v' ∧ Own base w' v' (bs ++ num8 n) ∧ KO base v v' w w' := by
  obtain ⟨m, hm⟩ : ∃ m : Nat, (n % 18446744073709551616).toNat = m := ⟨_, rfl⟩
  have hu : IntKind.u64.wrap n = ((m : Nat) : Int) := by rw [IntKind.wrap_u64]; omega
  have hml : m < 18446744073709551616 := by omega
  have HQ : Hid (num8 n = be8 m) := by show _ = _; unfold num8; rw [hm]
  have HO := hide hown
  clear hm hown
  go_enter Tryz.func65, Tryz.ntmps65
  go_wp2_with fail
  go_loopg [0, 5] 8 (fun g bv kv wr => ∃ j : Nat, j ≤ 8 ∧ g = 8 - j ∧ kv = .int .i64 (7 - (j : Int)) ∧ Own base wr bv (bs ++ (be8 m).take j) ∧ KO base v bv w wr)
  case atStart => exact ⟨0, by omega, by omega, rfl, by simpa using unhide HO, KO.refl _ _ _⟩
  case round =>
    obtain ⟨j, hj, hg, rfl, ho, hon⟩ := hrel
    have HG := hide hg
    have HON := hide hon
    have s1 : base ≤ wr.heap.size := Nat.le_trans hbase hon.size
    have hown := ho.1
    have HB := hide ho.2
    have hlen : (bs ++ (be8 m).take j).length ≤ 900000008 := by rw [List.length_append, List.length_take]; omega
    clear hg hon ho
    by_cases h8 : j = 8
    · subst h8
      have HW := hide hown
      clear hown
      go_wp2
      go_ret
      exact ⟨_, rfl, by rw [unhide HQ]; exact ⟨unhide HW, unhide HB⟩, unhide HON⟩
    · have hc : j = 0 ∨ j = 1 ∨ j = 2 ∨ j = 3 ∨ j = 4 ∨ j = 5 ∨ j = 6 ∨ j = 7 := by omega
      rcases hc with rfl | rfl | rfl | rfl | rfl | rfl | rfl | rfl
      · obtain ⟨bb, hbb⟩ : ∃ bb, bs ++ (be8 m).take 0 = bb := ⟨_, rfl⟩
        rw [hbb] at hown hlen
        have HBB := hide hbb
        clear hbb h8 hj
        have HE : Hid ((m : Int) / 72057594037927936 = ((m / 72057594037927936 % 256 : Nat) : Int)) := by show _ = _; omega
        have OW : Hid (Own base wr _ bb) := ⟨hown, by rw [← unhide HBB]; exact unhide HB⟩
        clear hown
        go_wp2_with (at_builtin; refine wpList_byte rfl (.tmp 10) (.tmp 17) rfl base _ bb rfl (unhide OW) (m / 72057594037927936 % 256) (by omega) _ (unhide HE) rfl (by omega) s1 ?_)
        intro v2 w2 o2 k2
        have O2 := hide o2
        have K2 := hide ((unhide HON).trans k2)
        clear o2 k2 OW
        go_wp2
        go_roundg 7
        case measure => have := unhide HG; omega
        case rel => exact ⟨1, by omega, rfl, by first | rfl | simp, by rw [show bs ++ (be8 m).take 1 = (bs ++ (be8 m).take 0) ++ [m / 72057594037927936 % 256] by rw [List.append_assoc]; rfl, unhide HBB]; exact unhide O2, unhide K2⟩
      · obtain ⟨bb, hbb⟩ : ∃ bb, bs ++ (be8 m).take 1 = bb := ⟨_, rfl⟩
        rw [hbb] at hown hlen
        have HBB := hide hbb
        clear hbb h8 hj
        have HE : Hid ((m : Int) / 281474976710656 % 256 = ((m / 281474976710656 % 256 : Nat) : Int)) := by show _ = _; omega
        have OW : Hid (Own base wr _ bb) := ⟨hown, by rw [← unhide HBB]; exact unhide HB⟩
        clear hown
        go_wp2_with (at_builtin; refine wpList_byte rfl (.tmp 10) (.tmp 17) rfl base _ bb rfl (unhide OW) (m / 281474976710656 % 256) (by omega) _ (unhide HE) rfl (by omega) s1 ?_)
        intro v2 w2 o2 k2
        have O2 := hide o2
        have K2 := hide ((unhide HON).trans k2)
        clear o2 k2 OW
        go_wp2
        go_roundg 6
        case measure => have := unhide HG; omega
        case rel => exact ⟨2, by omega, rfl, by first | rfl | simp, by rw [show bs ++ (be8 m).take 2 = (bs ++ (be8 m).take 1) ++ [m / 281474976710656 % 256] by rw [List.append_assoc]; rfl, unhide HBB]; exact unhide O2, unhide K2⟩
      · obtain ⟨bb, hbb⟩ : ∃ bb, bs ++ (be8 m).take 2 = bb := ⟨_, rfl⟩
        rw [hbb] at hown hlen
        have HBB := hide hbb
        clear hbb h8 hj
        have HE : Hid ((m : Int) / 1099511627776 % 256 = ((m / 1099511627776 % 256 : Nat) : Int)) := by show _ = _; omega
        have OW : Hid (Own base wr _ bb) := ⟨hown, by rw [← unhide HBB]; exact unhide HB⟩
        clear hown
        go_wp2_with (at_builtin; refine wpList_byte rfl (.tmp 10) (.tmp 17) rfl base _ bb rfl (unhide OW) (m / 1099511627776 % 256) (by omega) _ (unhide HE) rfl (by omega) s1 ?_)
        intro v2 w2 o2 k2
        have O2 := hide o2
        have K2 := hide ((unhide HON).trans k2)
        clear o2 k2 OW
        go_wp2
        go_roundg 5
        case measure => have := unhide HG; omega
        case rel => exact ⟨3, by omega, rfl, by first | rfl | simp, by rw [show bs ++ (be8 m).take 3 = (bs ++ (be8 m).take 2) ++ [m / 1099511627776 % 256] by rw [List.append_assoc]; rfl, unhide HBB]; exact unhide O2, unhide K2⟩
      · obtain ⟨bb, hbb⟩ : ∃ bb, bs ++ (be8 m).take 3 = bb := ⟨_, rfl⟩
        rw [hbb] at hown hlen
        have HBB := hide hbb
        clear hbb h8 hj
        have HE : Hid ((m : Int) / 4294967296 % 256 = ((m / 4294967296 % 256 : Nat) : Int)) := by show _ = _; omega
        have OW : Hid (Own base wr _ bb) := ⟨hown, by rw [← unhide HBB]; exact unhide HB⟩
        clear hown
        go_wp2_with (at_builtin; refine wpList_byte rfl (.tmp 10) (.tmp 17) rfl base _ bb rfl (unhide OW) (m / 4294967296 % 256) (by omega) _ (unhide HE) rfl (by omega) s1 ?_)
        intro v2 w2 o2 k2
        have O2 := hide o2
        have K2 := hide ((unhide HON).trans k2)
        clear o2 k2 OW
        go_wp2
        go_roundg 4
        case measure => have := unhide HG; omega
        case rel => exact ⟨4, by omega, rfl, by first | rfl | simp, by rw [show bs ++ (be8 m).take 4 = (bs ++ (be8 m).take 3) ++ [m / 4294967296 % 256] by rw [List.append_assoc]; rfl, unhide HBB]; exact unhide O2, unhide K2⟩
      · obtain ⟨bb, hbb⟩ : ∃ bb, bs ++ (be8 m).take 4 = bb := ⟨_, rfl⟩
        rw [hbb] at hown hlen
        have HBB := hide hbb
        clear hbb h8 hj
        have HE : Hid ((m : Int) / 16777216 % 256 = ((m / 16777216 % 256 : Nat) : Int)) := by show _ = _; omega
        have OW : Hid (Own base wr _ bb) := ⟨hown, by rw [← unhide HBB]; exact unhide HB⟩
        clear hown
        go_wp2_with (at_builtin; refine wpList_byte rfl (.tmp 10) (.tmp 17) rfl base _ bb rfl (unhide OW) (m / 16777216 % 256) (by omega) _ (unhide HE) rfl (by omega) s1 ?_)
        intro v2 w2 o2 k2
        have O2 := hide o2
        have K2 := hide ((unhide HON).trans k2)
        clear o2 k2 OW
        go_wp2
        go_roundg 3
        case measure => have := unhide HG; omega
        case rel => exact ⟨5, by omega, rfl, by first | rfl | simp, by rw [show bs ++ (be8 m).take 5 = (bs ++ (be8 m).take 4) ++ [m / 16777216 % 256] by rw [List.append_assoc]; rfl, unhide HBB]; exact unhide O2, unhide K2⟩
      · obtain ⟨bb, hbb⟩ : ∃ bb, bs ++ (be8 m).take 5 = bb := ⟨_, rfl⟩
        rw [hbb] at hown hlen
        have HBB := hide hbb
        clear hbb h8 hj
        have HE : Hid ((m : Int) / 65536 % 256 = ((m / 65536 % 256 : Nat) : Int)) := by show _ = _; omega
        have OW : Hid (Own base wr _ bb) := ⟨hown, by rw [← unhide HBB]; exact unhide HB⟩
        clear hown
        go_wp2_with (at_builtin; refine wpList_byte rfl (.tmp 10) (.tmp 17) rfl base _ bb rfl (unhide OW) (m / 65536 % 256) (by omega) _ (unhide HE) rfl (by omega) s1 ?_)
        intro v2 w2 o2 k2
        have O2 := hide o2
        have K2 := hide ((unhide HON).trans k2)
        clear o2 k2 OW
        go_wp2
        go_roundg 2
        case measure => have := unhide HG; omega
        case rel => exact ⟨6, by omega, rfl, by first | rfl | simp, by rw [show bs ++ (be8 m).take 6 = (bs ++ (be8 m).take 5) ++ [m / 65536 % 256] by rw [List.append_assoc]; rfl, unhide HBB]; exact unhide O2, unhide K2⟩
      · obtain ⟨bb, hbb⟩ : ∃ bb, bs ++ (be8 m).take 6 = bb := ⟨_, rfl⟩
        rw [hbb] at hown hlen
        have HBB := hide hbb
        clear hbb h8 hj
        have HE : Hid ((m : Int) / 256 % 256 = ((m / 256 % 256 : Nat) : Int)) := by show _ = _; omega
        have OW : Hid (Own base wr _ bb) := ⟨hown, by rw [← unhide HBB]; exact unhide HB⟩
        clear hown
        go_wp2_with (at_builtin; refine wpList_byte rfl (.tmp 10) (.tmp 17) rfl base _ bb rfl (unhide OW) (m / 256 % 256) (by omega) _ (unhide HE) rfl (by omega) s1 ?_)
        intro v2 w2 o2 k2
        have O2 := hide o2
        have K2 := hide ((unhide HON).trans k2)
        clear o2 k2 OW
        go_wp2
        go_roundg 1
        case measure => have := unhide HG; omega
        case rel => exact ⟨7, by omega, rfl, by first | rfl | simp, by rw [show bs ++ (be8 m).take 7 = (bs ++ (be8 m).take 6) ++ [m / 256 % 256] by rw [List.append_assoc]; rfl, unhide HBB]; exact unhide O2, unhide K2⟩
      · obtain ⟨bb, hbb⟩ : ∃ bb, bs ++ (be8 m).take 7 = bb := ⟨_, rfl⟩
        rw [hbb] at hown hlen
        have HBB := hide hbb
        clear hbb h8 hj
        have HE : Hid ((m : Int) % 256 = ((m % 256 : Nat) : Int)) := by show _ = _; omega
        have OW : Hid (Own base wr _ bb) := ⟨hown, by rw [← unhide HBB]; exact unhide HB⟩
        clear hown
        go_wp2_with (at_builtin; refine wpList_byte rfl (.tmp 10) (.tmp 17) rfl base _ bb rfl (unhide OW) (m % 256) (by omega) _ (unhide HE) rfl (by omega) s1 ?_)
        intro v2 w2 o2 k2
        have O2 := hide o2
        have K2 := hide ((unhide HON).trans k2)
        clear o2 k2 OW
        go_wp2
        go_roundg 0
        case measure => have := unhide HG; omega
        case rel => exact ⟨8, by omega, rfl, by first | rfl | simp, by rw [show bs ++ (be8 m).take 8 = (bs ++ (be8 m).take 7) ++ [m % 256] by rw [List.append_assoc]; rfl, unhide HBB]; exact unhide O2, unhide K2⟩

set_option maxRecDepth 20000 in
set_option maxHeartbeats 1000000 in
theorem rlistK (base : Nat) (v : Value) (bs : List Nat) (ao : Option Addr) (n cap : Nat) (ys : List Int) (hn : ys.length = n) (h255 : n < 256) (w : World) (hown : Own base w v bs) (hy : ∀ i, i < ys.length → ∃ a, ao = some a ∧ w.cell? (a.add i) = some (.int .i64 (ys.getD i 0)) ∧ v.ownBlock ≠ some a.block) (hl : bs.length ≤ 800000000) (hbase : base ≤ w.heap.size) :
    Calls Tryz.prog 54 #[v, .slice ao n cap] w fun e w' => ∃ v', e = .returned v' ∧ Own base w' v' (bs ++ [n] ++ nums ys) ∧ KO base v v' w w' := by
  have hw := hown.1
  have HB := hide hown.2
  have HN := hide hn
  have HY := hide hy
  clear hown hn hy
  go_enter Tryz.func54, Tryz.ntmps54
  go_wp2_with (at_builtin; refine wpList_byte rfl (.tmp 6) (.tmp 10) rfl base _ bs rfl ⟨hw, unhide HB⟩ n h255 _ rfl rfl (by omega) hbase ?_)
  intro v1 w1 o1 k1
  have O1 := hide o1
  have K1 := hide k1
  clear o1 k1 hw
  go_wp2_with fail
  go_loopg [0, 5] n (fun g bv iv wr => ∃ k : Nat, k ≤ n ∧ g = n - k ∧ iv = .int .i64 k ∧ Own base wr bv (bs ++ [n] ++ nums (ys.take k)) ∧ KO base v bv w wr)
  case atStart => exact ⟨0, Nat.zero_le _, by omega, rfl, by simpa [nums] using unhide O1, unhide K1⟩
  case round =>
    obtain ⟨k, hk, hg, rfl, ho, hon⟩ := hrel
    have HG := hide hg
    have HON := hide hon
    have HO := hide ho
    have s1 : base ≤ wr.heap.size := Nat.le_trans hbase hon.size
    have hlen : (bs ++ [n] ++ nums (ys.take k)).length ≤ 900000000 := by rw [List.length_append, List.length_append, nums_len, List.length_take, unhide HN]; simp; omega
    clear hg hon ho O1 K1
    by_cases hlt : k < n
    · obtain ⟨a, rfl, hc0, hna⟩ := (unhide HY) k (by rw [unhide HN]; exact hlt)
      have hc : wr.cell? (a.add k) = some (.int .i64 (ys.getD k 0)) := by
        have hlt' := blk_lt hc0
        rw [World.cell?_of_block (w := w) (a := a.add k) (by rw [add_block] at hlt' ⊢; exact (unhide HON).block hlt' hna)]; exact hc0
      clear hc0 hna
      have HS : Hid (ys.take (k + 1) = ys.take k ++ [ys.getD k 0]) := take_succ ys 0 k (by rw [unhide HN]; exact hlt)
      go_wp2_with fail
      refine (rnumK base _ _ (ys.getD k 0) wr (unhide HO) hlen s1).mono ?_
      rintro e w2 ⟨v2, rfl, o2, k2⟩
      have O2 := hide o2
      have K2 := hide ((unhide HON).trans k2)
      clear o2 k2 hc
      go_wp2
      go_roundg (n - (k + 1))
      case measure => have := unhide HG; omega
      case rel => exact ⟨k + 1, by omega, rfl, by go_num, by rw [unhide HS, nums_snoc, ← List.append_assoc]; exact unhide O2, unhide K2⟩
    · have ek : ys.take k = ys := List.take_of_length_le (by rw [unhide HN]; omega)
      have ho := unhide HO
      rw [ek] at ho
      have HO' := hide ho
      clear ho ek
      go_wp2
      go_ret
      exact ⟨_, rfl, unhide HO', unhide HON⟩
end Go.Proofs.YtgllokinadjiaaaGreatDoor.Ww
