/- wire.Crc, wire.joined: contracts. -/
import Derived.Test.YthjpdglbliigcaaDoorBase
namespace Go.Proofs.YthjpdglbliigcaaDoor
open Go.RowKit

set_option maxHeartbeats 1000000 in
theorem crc_some (a : Addr) (cap : Nat) (bs : List Nat) (w : World) (hb : Bytes w (some a) bs) (hl : bs.length ≤ 140737488355328) (hH : Table w) :
    Calls Tryd.prog 30 #[.slice (some a) bs.length cap] w fun e w' => e = .returned (.int .u32 ((Sum.crc bs : Nat) : Int)) ∧ w' = w := by
  have HB := hide hb
  have HT := hide hH
  clear hb hH
  go_enter Tryd.func30, Tryd.ntmps30
  go_wp2
  go_loop [3, 8] (fun s i => ∃ k : Nat, k ≤ bs.length ∧ i = .int .i64 k ∧ s = .int .u32 ((Sum.run 4294967295 (bs.take k) : Nat) : Int)) (fun _ i => bs.length - (intOf i).toNat)
  case atStart => exact ⟨0, Nat.zero_le _, rfl, rfl⟩
  case round =>
    obtain ⟨k, hk, rfl, rfl⟩ := hrel
    by_cases hlt : k < bs.length
    · obtain ⟨a', ea, hc⟩ := (unhide HB).2 k hlt
      obtain rfl := Option.some.inj ea
      have hx := getD_lt (unhide HB).1 k
      have hs := Sum.run_lt (bs.take k) (s := 4294967295) (by decide) (fun x hx => (unhide HB).1 x (List.mem_of_mem_take hx))
      have HE : Hid (Sum.run 4294967295 (bs.take (k + 1)) = Sum.byte (Sum.run 4294967295 (bs.take k)) (bs.getD k 0)) := by
        show _ = _
        rw [take_succ bs 0 k hlt, Sum.run_append]; rfl
      generalize bs.getD k 0 = x at *
      generalize Sum.run 4294967295 (bs.take k) = s at *
      have h1 := Sum.xor_lt hs (show x < 4294967296 by omega)
      have h2 := Sum.half_lt h1
      have e1 : bits .xor .u32 (s : Int) (x : Int) = ((s ^^^ x : Nat) : Int) := u32_xor_nat s x hs (by omega)
      have c1 := (unhide HT) ((s ^^^ x) % 16) (Nat.mod_lt _ (by decide))
      have a1 : bits .and .u32 ((s ^^^ x : Nat) : Int) 15 = (((s ^^^ x) % 16 : Nat) : Int) := (u32_and_nat _ 15 h1 (by decide)).trans (by rw [nat_mask4])
      have x1 : bits .xor .u32 (((s ^^^ x : Nat) : Int) / 16) ((Sum.halves.getD ((s ^^^ x) % 16) 0 : Nat) : Int) = ((Sum.half (s ^^^ x) : Nat) : Int) := by
        have := u32_xor_nat ((s ^^^ x) / 16) (Sum.halves.getD ((s ^^^ x) % 16) 0) (by omega) (Sum.halves_lt _)
        simpa [Sum.half] using this
      have HD : Hid (Sum.byte s x = Sum.half (Sum.half (s ^^^ x))) := rfl
      have b1 : (s ^^^ x) % 16 < 16 := Nat.mod_lt _ (by decide)
      generalize Sum.halves.getD ((s ^^^ x) % 16) 0 = y1 at *
      generalize (s ^^^ x) % 16 = i1 at *
      generalize s ^^^ x = t at *
      have c2 := (unhide HT) ((Sum.half t) % 16) (Nat.mod_lt _ (by decide))
      have a2 : bits .and .u32 ((Sum.half t : Nat) : Int) 15 = (((Sum.half t) % 16 : Nat) : Int) := (u32_and_nat _ 15 h2 (by decide)).trans (by rw [nat_mask4])
      have x2 : bits .xor .u32 (((Sum.half t : Nat) : Int) / 16) ((Sum.halves.getD ((Sum.half t) % 16) 0 : Nat) : Int) = ((Sum.half (Sum.half t) : Nat) : Int) := by
        have := u32_xor_nat ((Sum.half t) / 16) (Sum.halves.getD ((Sum.half t) % 16) 0) (by omega) (Sum.halves_lt _)
        simpa [Sum.half] using this
      have b2 : (Sum.half t) % 16 < 16 := Nat.mod_lt _ (by decide)
      generalize Sum.halves.getD ((Sum.half t) % 16) 0 = y2 at *
      generalize (Sum.half t) % 16 = i2 at *
      generalize Sum.half (Sum.half t) = t2 at *
      generalize Sum.half t = t1 at *
      go_wp2
      go_round
      case rel => exact ⟨k + 1, by omega, by go_num, by rw [unhide HE, unhide HD]⟩
      case measure => simp [intOf]; omega
    · have he : bs.take k = bs := List.take_of_length_le (by omega)
      have hs := Sum.run_lt (bs.take k) (s := 4294967295) (by decide) (fun x hx => (unhide HB).1 x (List.mem_of_mem_take hx))
      have HE : Hid (Sum.crc bs = 4294967295 ^^^ Sum.run 4294967295 (bs.take k)) := by show _ = _; rw [he]; rfl
      clear he
      generalize Sum.run 4294967295 (bs.take k) = s at *
      go_wp2
      go_ret
      refine ⟨ret_int ?_, rfl⟩
      rw [unhide HE]
      exact u32_xor_nat 4294967295 s (by decide) hs

theorem crc_none (bs : List Nat) (w : World) (hb : Bytes w none bs) :
    Calls Tryd.prog 30 #[.slice none bs.length 0] w fun e w' => e = .returned (.int .u32 ((Sum.crc bs : Nat) : Int)) ∧ w' = w := by
  have he : bs = [] := by
    cases bs with
    | nil => rfl
    | cons x l => obtain ⟨a, ea, _⟩ := hb.2 0 (by simp); cases ea
  subst he
  go_enter Tryd.func30, Tryd.ntmps30
  go_wp2
  refine wp_loop_rounds 1 ?_; rw [rounds_succ]
  go_wp2
  go_ret
  exact ⟨rfl, rfl⟩

set_option maxHeartbeats 1000000 in
theorem joined_some (a : Addr) (cap : Nat) (bs : List Nat) (w : World) (hb : Bytes w (some a) bs) (hl : bs.length ≤ 140737488355328) :
    Calls Tryd.prog 75 #[.slice (some a) bs.length cap] w fun e w' => e = .returned (.int .u64 ((joinTo 0 bs : Nat) : Int)) ∧ w' = w := by
  have HB := hide hb
  clear hb
  go_enter Tryd.func75, Tryd.ntmps75
  go_wp2
  go_loop [3, 8] (fun s i => ∃ k : Nat, k ≤ bs.length ∧ i = .int .i64 k ∧ s = .int .u64 ((joinTo 0 (bs.take k) : Nat) : Int) ∧ joinTo 0 (bs.take k) < 18446744073709551616) (fun _ i => bs.length - (intOf i).toNat)
  case atStart => exact ⟨0, Nat.zero_le _, rfl, rfl, by simp [joinTo]⟩
  case round =>
    obtain ⟨k, hk, rfl, rfl, hs⟩ := hrel
    by_cases hlt : k < bs.length
    · obtain ⟨a', ea, hc⟩ := (unhide HB).2 k hlt
      obtain rfl := Option.some.inj ea
      have hx := getD_lt (unhide HB).1 k
      have HE : Hid (joinTo 0 (bs.take (k + 1)) = joinTo 0 (bs.take k) * 256 % 18446744073709551616 + bs.getD k 0) := by
        show _ = _
        rw [take_succ bs 0 k hlt, joinTo, List.foldl_append]; rfl
      generalize bs.getD k 0 = x at *
      generalize joinTo 0 (bs.take k) = s at *
      have e1 : bits .or .u64 (IntKind.u64.wrap ((s : Int) * 256)) (x : Int) = ((s * 256 % 18446744073709551616 + x : Nat) : Int) := by
        have := u64_or_nat (s * 256 % 18446744073709551616) x (by omega) (by omega)
        rw [nat_join 8 _ x (by omega) hx] at this
        rw [IntKind.wrap_u64]
        simpa using this
      go_wp2
      go_round
      case rel => exact ⟨k + 1, by omega, by go_num, by rw [unhide HE]; simp, by rw [unhide HE]; omega⟩
      case measure => simp [intOf]; omega
    · have he : bs.take k = bs := List.take_of_length_le (by omega)
      rw [he] at hs ⊢
      clear he
      go_wp2
      go_ret
      exact ⟨rfl, rfl⟩
theorem joined_none (cap : Nat) (bs : List Nat) (w : World) (hb : Bytes w none bs) :
    Calls Tryd.prog 75 #[.slice none bs.length cap] w fun e w' => e = .returned (.int .u64 ((joinTo 0 bs : Nat) : Int)) ∧ w' = w := by
  have he : bs = [] := by
    cases bs with
    | nil => rfl
    | cons x l => obtain ⟨a, ea, _⟩ := hb.2 0 (by simp); cases ea
  subst he
  go_enter Tryd.func75, Tryd.ntmps75
  go_wp2
  refine wp_loop_rounds 1 ?_; rw [rounds_succ]
  go_wp2
  go_ret
  exact ⟨rfl, rfl⟩
end Go.Proofs.YthjpdglbliigcaaDoor
