/- wire.frameAt: a contract. -/
import Derived.Test.YtnagfoclbdlenaaGreatDoorFrameW
import Derived.Test.YtnagfoclbdlenaaGreatDoorAsW
import Derived.BigQuiet
import Derived.Deep.QuietTactic
namespace Go.Proofs.YtnagfoclbdlenaaGreatDoor
open Go.RowKit

theorem frameAt_short (ao : Option Addr) (n cap at' : Nat) (w : World) (h0 : at' ≤ n) (_h1 : n ≤ cap) (h2 : n < at' + 4) (_h3 : n ≤ 1000000000000) :
    Calls Tryz.prog 47 #[.slice ao n cap, .int .i64 at'] w fun e w' => e = .returned (.tuple #[.int .i64 0, .nilIface]) ∧ w' = w := by
  go_enter Tryz.func47, Tryz.ntmps47
  go_wp2
  all_goals
    go_ret2
    exact ⟨rfl, rfl⟩

set_option maxRecDepth 8000 in
set_option maxHeartbeats 1000000 in
theorem frameAt_long (a : Addr) (n cap at' : Nat) (bs : List Nat) (hbl : bs.length = n - at') (w : World) (hb : Bytes w (some (a.add at')) bs) (h0 : at' ≤ n) (h1 : n ≤ cap) (h2 : at' + 4 ≤ n) (_h3 : n ≤ 1000000000000)
    (h4 : 65536 < joinTo 0 (bs.take 4)) :
    Calls Tryz.prog 47 #[.slice (some a) n cap, .int .i64 at'] w fun e w' => e = .returned (.tuple #[.int .i64 0, .iface 113 (.pointer (some ⟨w.heap.size, 0, none⟩))]) ∧ w' = w.alloc (.cells #[.int .i64 at', .iface 26 (.int .i64 5)] 115) := by
  have hne : ¬ cap = at' := by omega
  have hjl : joinTo 0 (bs.take 4) < 18446744073709551616 := join_lt (fun x hx => hb.1 x (List.mem_of_mem_take hx))
  have HB := hide (hb.take 4)
  have HL := hide (show (bs.take 4).length = 4 by rw [List.length_take]; omega)
  generalize bs.take 4 = f4 at *
  clear hb hbl
  go_enter Tryz.func47, Tryz.ntmps47
  go_wp2_with fail
  refine (joined_len _ 4 _ f4 (unhide HL) w (unhide HB) (by omega)).mono ?_
  rintro e w' ⟨rfl, rfl⟩
  generalize joinTo 0 f4 = m at *
  go_wp2
  go_ret2
  exact ⟨rfl, rfl⟩

set_option maxRecDepth 8000 in
set_option maxHeartbeats 1000000 in
theorem frameAt_part (a : Addr) (n cap at' : Nat) (bs : List Nat) (hbl : bs.length = n - at') (w : World) (hb : Bytes w (some (a.add at')) bs) (h0 : at' ≤ n) (h1 : n ≤ cap) (h2 : at' + 4 ≤ n) (_h3 : n ≤ 1000000000000)
    (h4 : joinTo 0 (bs.take 4) ≤ 65536) (h5 : n < at' + (8 + joinTo 0 (bs.take 4))) :
    Calls Tryz.prog 47 #[.slice (some a) n cap, .int .i64 at'] w fun e w' => e = .returned (.tuple #[.int .i64 0, .nilIface]) ∧ w' = w := by
  have hne : ¬ cap = at' := by omega
  have HB := hide (hb.take 4)
  have HL := hide (show (bs.take 4).length = 4 by rw [List.length_take]; omega)
  generalize bs.take 4 = f4 at *
  clear hb hbl
  go_enter Tryz.func47, Tryz.ntmps47
  go_wp2_with fail
  refine (joined_len _ 4 _ f4 (unhide HL) w (unhide HB) (by omega)).mono ?_
  rintro e w' ⟨rfl, rfl⟩
  generalize joinTo 0 f4 = m at *
  go_wp2
  go_ret2
  exact ⟨rfl, rfl⟩

set_option maxRecDepth 8000 in
set_option maxHeartbeats 1000000 in
theorem frameAt_sum (a : Addr) (n cap at' : Nat) (bs : List Nat) (hbl : bs.length = n - at') (w : World) (hb : Bytes w (some (a.add at')) bs) (h0 : at' ≤ n) (h1 : n ≤ cap) (h2 : at' + 4 ≤ n) (h3 : n ≤ 1000000000000)
    (h4 : joinTo 0 (bs.take 4) ≤ 65536) (h5 : at' + (8 + joinTo 0 (bs.take 4)) ≤ n) (hT : Table w)
    (h6 : joinTo 0 ((bs.drop 4).take 4) ≠ Sum.crc ((bs.drop 8).take (joinTo 0 (bs.take 4)))) :
    Calls Tryz.prog 47 #[.slice (some a) n cap, .int .i64 at'] w fun e w' => e = .returned (.tuple #[.int .i64 0, .iface 113 (.pointer (some ⟨w.heap.size, 0, none⟩))]) ∧ ∃ k p, w' = (w.drewN k).alloc (.cells #[p, .iface 26 (.int .i64 11)] 115) := by
  have hne : ¬ cap = at' := by omega
  have hcl : Sum.crc ((bs.drop 8).take (joinTo 0 (bs.take 4))) < 4294967296 := Sum.crc_lt (fun x hx => hb.1 x (List.mem_of_mem_drop (List.mem_of_mem_take hx)))
  have HB := hide (hb.take 4)
  have HB2 := hide ((hb.drop 4).take 4)
  have HB3 := hide ((hb.drop 8).take (joinTo 0 (bs.take 4)))
  have HT := hide hT
  have HL := hide (show (bs.take 4).length = 4 by rw [List.length_take]; omega)
  have HL2 := hide (show ((bs.drop 4).take 4).length = 4 by rw [List.length_take, List.length_drop]; omega)
  have HL3 := hide (show ((bs.drop 8).take (joinTo 0 (bs.take 4))).length = joinTo 0 (bs.take 4) by rw [List.length_take, List.length_drop]; omega)
  generalize (bs.drop 8).take (joinTo 0 (bs.take 4)) = f9 at *
  generalize (bs.drop 4).take 4 = f8 at *
  generalize bs.take 4 = f4 at *
  clear hb hbl hT
  go_enter Tryz.func47, Tryz.ntmps47
  go_wp2_with fail
  refine (joined_len _ 4 _ f4 (unhide HL) w (unhide HB) (by omega)).mono ?_
  rintro e w' ⟨rfl, rfl⟩
  generalize joinTo 0 f4 = m at *
  go_wp2_with fail
  have HC : Hid (n - at' ≤ cap - at' ∧ 8 + m ≤ n - at' ∧ n - at' ≤ 1000000000000) := by show _ ∧ _ ∧ _; omega
  clear h0 h1 h2 h3 h5 hne
  generalize n - at' = n' at *
  generalize cap - at' = c' at *
  generalize a.add at' = a' at *
  obtain ⟨q0, q1, q2⟩ := unhide HC
  have r1 : (8 : Int) ≤ c' := by omega
  have r2 : (8 : Int) + m ≤ c' := by omega
  have r3 : ¬ c' = 4 := by omega
  have h7 : (((joinTo 0 f8 : Nat) : Int) != ((Sum.crc f9 : Nat) : Int)) = true := by rw [bne_iff_ne]; omega
  by_cases r4 : c' = 8
  · obtain rfl : m = 0 := by omega
    have e9 : f9 = [] := List.eq_nil_of_length_eq_zero (unhide HL3)
    subst e9
    subst r4
    have HB0 : Hid (Bytes w' (some a') []) := ⟨by simp, by simp⟩
    go_quiet (first | (go_at_call 59; exact Calls.quiet_of_same (joined_len _ 4 _ f8 (unhide HL2) _ (unhide HB2) (by omega))) | (go_at_call 60; exact Calls.quiet_of_same (crc_len (some a') 0 0 [] rfl _ (unhide HB0) (fun _ => rfl) (Nat.zero_le _) (unhide HT))))
    go_wp2
    go_ret2
    exact ⟨rfl, _, _, rfl⟩
  · go_quiet (first | (go_at_call 59; exact Calls.quiet_of_same (joined_len _ 4 _ f8 (unhide HL2) _ (unhide HB2) (by omega))) | (go_at_call 60; exact Calls.quiet_of_same (crc_len _ _ _ f9 (unhide HL3) _ (unhide HB3) (fun h => by cases h) (by omega) (unhide HT))))
    go_wp2
    go_ret2
    exact ⟨rfl, _, _, rfl⟩

set_option maxRecDepth 8000 in
set_option maxHeartbeats 1000000 in
theorem frameAt_whole (a : Addr) (n cap at' m : Nat) (bs : List Nat) (hm : joinTo 0 (bs.take 4) = m) (hbl : bs.length = n - at') (w : World) (hb : Bytes w (some (a.add at')) bs) (h0 : at' ≤ n) (h1 : n ≤ cap) (h2 : at' + 4 ≤ n) (h3 : n ≤ 1000000000000)
    (h4 : m ≤ 65536) (h5 : at' + (8 + m) ≤ n) (hT : Table w)
    (h6 : joinTo 0 ((bs.drop 4).take 4) = Sum.crc ((bs.drop 8).take (m))) :
    Calls Tryz.prog 47 #[.slice (some a) n cap, .int .i64 at'] w fun e w' => e = .returned (.tuple #[.int .i64 ((8 + m : Nat) : Int), .nilIface]) ∧ ∃ k, w' = w.drewN k := by
  have hne : ¬ cap = at' := by omega
  have HM := hide hm
  clear hm
  have hcl : Sum.crc ((bs.drop 8).take (m)) < 4294967296 := Sum.crc_lt (fun x hx => hb.1 x (List.mem_of_mem_drop (List.mem_of_mem_take hx)))
  have HB := hide (hb.take 4)
  have HB2 := hide ((hb.drop 4).take 4)
  have HB3 := hide ((hb.drop 8).take (m))
  have HT := hide hT
  have HL := hide (show (bs.take 4).length = 4 by rw [List.length_take]; omega)
  have HL2 := hide (show ((bs.drop 4).take 4).length = 4 by rw [List.length_take, List.length_drop]; omega)
  have HL3 := hide (show ((bs.drop 8).take (m)).length = m by rw [List.length_take, List.length_drop]; omega)
  generalize (bs.drop 8).take (m) = f9 at *
  generalize (bs.drop 4).take 4 = f8 at *
  generalize bs.take 4 = f4 at *
  clear hb hbl hT
  go_enter Tryz.func47, Tryz.ntmps47
  go_wp2_with fail
  refine (joined_len _ 4 _ f4 (unhide HL) w (unhide HB) (by omega)).mono ?_
  rintro e w' ⟨rfl, rfl⟩
  rw [unhide HM]
  go_wp2_with fail
  have HC : Hid (n - at' ≤ cap - at' ∧ 8 + m ≤ n - at' ∧ n - at' ≤ 1000000000000) := by show _ ∧ _ ∧ _; omega
  clear h0 h1 h2 h3 h5 hne
  generalize n - at' = n' at *
  generalize cap - at' = c' at *
  generalize a.add at' = a' at *
  obtain ⟨q0, q1, q2⟩ := unhide HC
  have r1 : (8 : Int) ≤ c' := by omega
  have r2 : (8 : Int) + m ≤ c' := by omega
  have r3 : ¬ c' = 4 := by omega
  have h7 : (((joinTo 0 f8 : Nat) : Int) != ((Sum.crc f9 : Nat) : Int)) = false := by rw [h6]; simp
  have H6 := hide h6
  clear h6
  by_cases r4 : c' = 8
  · obtain rfl : m = 0 := by omega
    have e9 : f9 = [] := List.eq_nil_of_length_eq_zero (unhide HL3)
    subst e9
    subst r4
    have HB0 : Hid (Bytes w' (some a') []) := ⟨by simp, by simp⟩
    go_quiet (first | (go_at_call 59; exact Calls.quiet_of_same (joined_len _ 4 _ f8 (unhide HL2) _ (unhide HB2) (by omega))) | (go_at_call 60; exact Calls.quiet_of_same (crc_len (some a') 0 0 [] rfl _ (unhide HB0) (fun _ => rfl) (Nat.zero_le _) (unhide HT))))
    go_wp2
    go_ret2
    exact ⟨by simp, _, rfl⟩
  · go_quiet (first | (go_at_call 59; exact Calls.quiet_of_same (joined_len _ 4 _ f8 (unhide HL2) _ (unhide HB2) (by omega))) | (go_at_call 60; exact Calls.quiet_of_same (crc_len _ _ _ f9 (unhide HL3) _ (unhide HB3) (fun h => by cases h) (by omega) (unhide HT))))
    go_wp2
    go_ret2
    exact ⟨by simp, _, rfl⟩
end Go.Proofs.YtnagfoclbdlenaaGreatDoor
