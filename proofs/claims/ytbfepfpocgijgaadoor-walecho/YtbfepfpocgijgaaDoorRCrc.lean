/- synodalref2: Crc (the same sum), get, four, Frame: contracts. -/
import Derived.Test.YtbfepfpocgijgaaDoorWLaws
namespace Go.Proofs.YtbfepfpocgijgaaDoor
open Go.RowKit

def rbits : Nat → Nat → Nat
  | 0, s => s
  | k + 1, s => Sum.bit (rbits k s)
theorem rbits8 (s x : Nat) : rbits 8 (s ^^^ x) = Sum.byte s x := Sum.eight_bits s x
theorem bit_lt {x : Nat} (h : x < 4294967296) : Sum.bit x < 4294967296 := by
  unfold Sum.bit; split
  · exact Sum.xor_lt (by omega) (by decide)
  · omega
theorem rbits_lt {s : Nat} (h : s < 4294967296) : ∀ k, rbits k s < 4294967296
  | 0 => h
  | k + 1 => bit_lt (rbits_lt h k)

set_option maxHeartbeats 2000000 in
theorem rcrc_some (a : Addr) (cap : Nat) (bs : List Nat) (w : World) (hb : Bytes w (some a) bs) (hl : bs.length ≤ 140737488355328) :
    Calls Tryd.prog 36 #[.slice (some a) bs.length cap] w fun e w' => e = .returned (.int .u32 ((Sum.crc bs : Nat) : Int)) ∧ w' = w := by
  have HB := hide hb
  clear hb
  go_enter Tryd.func36, Tryd.ntmps36
  go_wp2
  go_loop [3, 4, 5] (fun s i _ => ∃ k : Nat, k ≤ bs.length ∧ i = .int .i64 k ∧ s = .int .u32 ((Sum.run 4294967295 (bs.take k) : Nat) : Int)) (fun _ i _ => bs.length - (intOf i).toNat)
  case atStart => exact ⟨0, Nat.zero_le _, rfl, rfl⟩
  case round =>
    obtain ⟨k, hk, rfl, rfl⟩ := hrel
    by_cases hlt : k < bs.length
    · obtain ⟨a', ea, hc⟩ := (unhide HB).2 k hlt
      obtain rfl := Option.some.inj ea
      have hx := getD_lt (unhide HB).1 k
      have hs := Sum.run_lt (bs.take k) (s := 4294967295) (by decide) (fun x hx => (unhide HB).1 x (List.mem_of_mem_take hx))
      have HE : Hid (Sum.run 4294967295 (bs.take (k + 1)) = Sum.byte (Sum.run 4294967295 (bs.take k)) (bs.getD k 0)) := by
        show _ = _
        rw [take_succ bs 0 k hlt, Sum.run_append]; rfl
      generalize bs.getD k 0 = x at *
      generalize Sum.run 4294967295 (bs.take k) = s at *
      have h1 := Sum.xor_lt hs (show x < 4294967296 by omega)
      have e1 : Go.bits .xor .u32 (s : Int) (x : Int) = ((s ^^^ x : Nat) : Int) := u32_xor_nat s x hs (by omega)
      have HB8 := hide (rbits8 s x)
      generalize s ^^^ x = t at *
      go_wp2
      go_loop [3, 5] (fun s j => ∃ m : Nat, m ≤ 8 ∧ j = .int .i64 m ∧ s = .int .u32 ((rbits m t : Nat) : Int)) (fun _ j => 8 - (intOf j).toNat)
      case atStart => exact ⟨0, by omega, rfl, rfl⟩
      case round =>
        obtain ⟨m, hm, rfl, rfl⟩ := hrel
        have hr := rbits_lt h1 m
        by_cases hm8 : m < 8
        · have HR : Hid (rbits (m + 1) t = Sum.bit (rbits m t)) := rfl
          generalize rbits m t = r at *
          have a1 : Go.bits .and .u32 ((r : Nat) : Int) 1 = ((r % 2 : Nat) : Int) := (u32_and_nat r 1 hr (by decide)).trans (by rw [nat_mask1])
          rcases Nat.mod_two_eq_zero_or_one r with p | p
          · rw [p] at a1
            have HB0 : Hid (Sum.bit r = r / 2) := by show _ = _; unfold Sum.bit; rw [if_neg (by omega)]
            clear p
            go_wp2
            go_round
            case rel => exact ⟨m + 1, by omega, by go_num, by rw [unhide HR, unhide HB0]; simp⟩
            case measure => simp [intOf]; omega
          · rw [p] at a1
            have HB0 : Hid (Sum.bit r = r / 2 ^^^ 2197175160) := by show _ = _; unfold Sum.bit; rw [if_pos p]
            have x1 : Go.bits .xor .u32 ((r : Int) / 2) 2197175160 = ((r / 2 ^^^ 2197175160 : Nat) : Int) := by
              have := u32_xor_nat (r / 2) 2197175160 (by omega) (by decide)
              simpa using this
            clear p
            go_wp2
            go_round
            case rel => exact ⟨m + 1, by omega, by go_num, by rw [unhide HR, unhide HB0]⟩
            case measure => simp [intOf]; omega
        · obtain rfl : m = 8 := by omega
          go_wp2
          go_round
          case rel => exact ⟨k + 1, by omega, by go_num, by rw [unhide HE, ← unhide HB8]⟩
          case measure => simp [intOf]; omega
    · have he : bs.take k = bs := List.take_of_length_le (by omega)
      have hs := Sum.run_lt (bs.take k) (s := 4294967295) (by decide) (fun x hx => (unhide HB).1 x (List.mem_of_mem_take hx))
      have HE : Hid (Sum.crc bs = 4294967295 ^^^ Sum.run 4294967295 (bs.take k)) := by show _ = _; rw [he]; rfl
      clear he
      generalize Sum.run 4294967295 (bs.take k) = s at *
      go_wp2
      go_ret
      refine ⟨ret_int ?_, rfl⟩
      rw [unhide HE]
      exact u32_xor_nat 4294967295 s (by decide) hs
end Go.Proofs.YtbfepfpocgijgaaDoor
