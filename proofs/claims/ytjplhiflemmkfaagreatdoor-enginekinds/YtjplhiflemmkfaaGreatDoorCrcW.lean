/- wire.Crc, wire.joined: contracts. Plain numbers: what Split makes of bytes. wire.Frame: a contract. -/
import Derived.Test.YtjplhiflemmkfaaGreatDoorCrc
namespace Go.Proofs.YtjplhiflemmkfaaGreatDoor
open Go.RowKit

set_option maxHeartbeats 1000000 in
theorem crc_some (a : Addr) (cap : Nat) (bs : List Nat) (w : World) (hb : Bytes w (some a) bs) (hl : bs.length ≤ 140737488355328) (hH : Table w) :
    Calls Tryz.prog 222 #[.slice (some a) bs.length cap] w fun e w' => e = .returned (.int .u32 ((Sum.crc bs : Nat) : Int)) ∧ w' = w := by
  have HB := hide hb
  have HT := hide hH
  clear hb hH
  go_enter Tryz.func222, Tryz.ntmps222
  go_wp2
  go_loop [3, 8] (fun s i => ∃ k : Nat, k ≤ bs.length ∧ i = .int .i64 k ∧ s = .int .u32 ((Sum.run 4294967295 (bs.take k) : Nat) : Int)) (fun _ i => bs.length - (intOf i).toNat)
  case atStart => exact ⟨0, Nat.zero_le _, rfl, rfl⟩
  case round =>
    obtain ⟨k, hk, rfl, rfl⟩ := hrel
    by_cases hlt : k < bs.length
    · obtain ⟨a', ea, hc⟩ := (unhide HB).2 k hlt
      obtain rfl := Option.some.inj ea
      have hx := getD_lt (unhide HB).1 k
      have hs := Sum.run_lt (bs.take k) (s := 4294967295) (by decide) (fun x hx => (unhide HB).1 x (List.mem_of_mem_take hx))
      have HE : Hid (Sum.run 4294967295 (bs.take (k + 1)) = Sum.byte (Sum.run 4294967295 (bs.take k)) (bs.getD k 0)) := by
        show _ = _
        rw [take_succ bs 0 k hlt, Sum.run_append]; rfl
      generalize bs.getD k 0 = x at *
      generalize Sum.run 4294967295 (bs.take k) = s at *
      have h1 := Sum.xor_lt hs (show x < 4294967296 by omega)
      have h2 := Sum.half_lt h1
      have e1 : bits .xor .u32 (s : Int) (x : Int) = ((s ^^^ x : Nat) : Int) := u32_xor_nat s x hs (by omega)
      have c1 := (unhide HT) ((s ^^^ x) % 16) (Nat.mod_lt _ (by decide))
      have a1 : bits .and .u32 ((s ^^^ x : Nat) : Int) 15 = (((s ^^^ x) % 16 : Nat) : Int) := (u32_and_nat _ 15 h1 (by decide)).trans (by rw [nat_mask4])
      have x1 : bits .xor .u32 (((s ^^^ x : Nat) : Int) / 16) ((Sum.halves.getD ((s ^^^ x) % 16) 0 : Nat) : Int) = ((Sum.half (s ^^^ x) : Nat) : Int) := by
        have := u32_xor_nat ((s ^^^ x) / 16) (Sum.halves.getD ((s ^^^ x) % 16) 0) (by omega) (Sum.halves_lt _)
        simpa [Sum.half] using this
      have HD : Hid (Sum.byte s x = Sum.half (Sum.half (s ^^^ x))) := rfl
      have b1 : (s ^^^ x) % 16 < 16 := Nat.mod_lt _ (by decide)
      generalize Sum.halves.getD ((s ^^^ x) % 16) 0 = y1 at *
      generalize (s ^^^ x) % 16 = i1 at *
      generalize s ^^^ x = t at *
      have c2 := (unhide HT) ((Sum.half t) % 16) (Nat.mod_lt _ (by decide))
      have a2 : bits .and .u32 ((Sum.half t : Nat) : Int) 15 = (((Sum.half t) % 16 : Nat) : Int) := (u32_and_nat _ 15 h2 (by decide)).trans (by rw [nat_mask4])
      have x2 : bits .xor .u32 (((Sum.half t : Nat) : Int) / 16) ((Sum.halves.getD ((Sum.half t) % 16) 0 : Nat) : Int) = ((Sum.half (Sum.half t) : Nat) : Int) := by
        have := u32_xor_nat ((Sum.half t) / 16) (Sum.halves.getD ((Sum.half t) % 16) 0) (by omega) (Sum.halves_lt _)
        simpa [Sum.half] using this
      have b2 : (Sum.half t) % 16 < 16 := Nat.mod_lt _ (by decide)
      generalize Sum.halves.getD ((Sum.half t) % 16) 0 = y2 at *
      generalize (Sum.half t) % 16 = i2 at *
      generalize Sum.half (Sum.half t) = t2 at *
      generalize Sum.half t = t1 at *
      go_wp2
      go_round
      case rel => exact ⟨k + 1, by omega, by go_num, by rw [unhide HE, unhide HD]⟩
      case measure => simp [intOf]; omega
    · have he : bs.take k = bs := List.take_of_length_le (by omega)
      have hs := Sum.run_lt (bs.take k) (s := 4294967295) (by decide) (fun x hx => (unhide HB).1 x (List.mem_of_mem_take hx))
      have HE : Hid (Sum.crc bs = 4294967295 ^^^ Sum.run 4294967295 (bs.take k)) := by show _ = _; rw [he]; rfl
      clear he
      generalize Sum.run 4294967295 (bs.take k) = s at *
      go_wp2
      go_ret
      refine ⟨ret_int ?_, rfl⟩
      rw [unhide HE]
      exact u32_xor_nat 4294967295 s (by decide) hs

theorem crc_none (bs : List Nat) (w : World) (hb : Bytes w none bs) :
    Calls Tryz.prog 222 #[.slice none bs.length 0] w fun e w' => e = .returned (.int .u32 ((Sum.crc bs : Nat) : Int)) ∧ w' = w := by
  have he : bs = [] := by
    cases bs with
    | nil => rfl
    | cons x l => obtain ⟨a, ea, _⟩ := hb.2 0 (by simp); cases ea
  subst he
  go_enter Tryz.func222, Tryz.ntmps222
  go_wp2
  refine wp_loop_rounds 1 ?_; rw [rounds_succ]
  go_wp2
  go_ret
  exact ⟨rfl, rfl⟩

set_option maxHeartbeats 1000000 in
theorem joined_some (a : Addr) (cap : Nat) (bs : List Nat) (w : World) (hb : Bytes w (some a) bs) (hl : bs.length ≤ 140737488355328) :
    Calls Tryz.prog 267 #[.slice (some a) bs.length cap] w fun e w' => e = .returned (.int .u64 ((joinTo 0 bs : Nat) : Int)) ∧ w' = w := by
  have HB := hide hb
  clear hb
  go_enter Tryz.func267, Tryz.ntmps267
  go_wp2
  go_loop [3, 8] (fun s i => ∃ k : Nat, k ≤ bs.length ∧ i = .int .i64 k ∧ s = .int .u64 ((joinTo 0 (bs.take k) : Nat) : Int) ∧ joinTo 0 (bs.take k) < 18446744073709551616) (fun _ i => bs.length - (intOf i).toNat)
  case atStart => exact ⟨0, Nat.zero_le _, rfl, rfl, by simp [joinTo]⟩
  case round =>
    obtain ⟨k, hk, rfl, rfl, hs⟩ := hrel
    by_cases hlt : k < bs.length
    · obtain ⟨a', ea, hc⟩ := (unhide HB).2 k hlt
      obtain rfl := Option.some.inj ea
      have hx := getD_lt (unhide HB).1 k
      have HE : Hid (joinTo 0 (bs.take (k + 1)) = joinTo 0 (bs.take k) * 256 % 18446744073709551616 + bs.getD k 0) := by
        show _ = _
        rw [take_succ bs 0 k hlt, joinTo, List.foldl_append]; rfl
      generalize bs.getD k 0 = x at *
      generalize joinTo 0 (bs.take k) = s at *
      have e1 : bits .or .u64 (IntKind.u64.wrap ((s : Int) * 256)) (x : Int) = ((s * 256 % 18446744073709551616 + x : Nat) : Int) := by
        have := u64_or_nat (s * 256 % 18446744073709551616) x (by omega) (by omega)
        rw [nat_join 8 _ x (by omega) hx] at this
        rw [IntKind.wrap_u64]
        simpa using this
      go_wp2
      go_round
      case rel => exact ⟨k + 1, by omega, by go_num, by rw [unhide HE]; simp, by rw [unhide HE]; omega⟩
      case measure => simp [intOf]; omega
    · have he : bs.take k = bs := List.take_of_length_le (by omega)
      rw [he] at hs ⊢
      clear he
      go_wp2
      go_ret
      exact ⟨rfl, rfl⟩
theorem joined_none (cap : Nat) (bs : List Nat) (w : World) (hb : Bytes w none bs) :
    Calls Tryz.prog 267 #[.slice none bs.length cap] w fun e w' => e = .returned (.int .u64 ((joinTo 0 bs : Nat) : Int)) ∧ w' = w := by
  have he : bs = [] := by
    cases bs with
    | nil => rfl
    | cons x l => obtain ⟨a, ea, _⟩ := hb.2 0 (by simp); cases ea
  subst he
  go_enter Tryz.func267, Tryz.ntmps267
  go_wp2
  refine wp_loop_rounds 1 ?_; rw [rounds_succ]
  go_wp2
  go_ret
  exact ⟨rfl, rfl⟩
end Go.Proofs.YtjplhiflemmkfaaGreatDoor
namespace Go.Proofs.YtjplhiflemmkfaaGreatDoor
/-- the bytes of a frame. -/
def frame (bs : List Nat) : List Nat := be4 bs.length ++ be4 (Sum.crc bs) ++ bs
/-- what stands at the beginning of bytes: none (0), a flaw (its number), or a frame that is whole and what it holds. -/
def frameOf (l : List Nat) : Nat × Option (List Nat) :=
  if l.length < 4 then (0, none) else
  let n := joinTo 0 (l.take 4)
  if 65536 < n then (5, none) else
  if l.length < 8 + n then (0, none) else
  if joinTo 0 ((l.drop 4).take 4) ≠ Sum.crc ((l.drop 8).take n) then (11, none) else (0, some ((l.drop 8).take n))
/-- the frames of bytes, how many bytes they take, and what stands behind them. -/
def splitOf : Nat → List Nat → List (List Nat) × Nat × Nat
  | 0, _ => ([], 0, 0)
  | f + 1, l => match frameOf l with
    | (e, none) => ([], 0, e)
    | (_, some x) => let (xs, n, e) := splitOf f (l.drop (8 + x.length)); (x :: xs, 8 + x.length + n, e)
end Go.Proofs.YtjplhiflemmkfaaGreatDoor
namespace Go.Proofs.YtjplhiflemmkfaaGreatDoor
open Go.RowKit

theorem Bytes.news {w : World} {a : Addr} {bs : List Nat} (h : Bytes w (some a) bs) : ∀ j u, (u8s bs)[j]? = some u → w.cell? (a.add j) = some u := by
  intro j u hj
  have hj' : j < bs.length := by
    have := (List.getElem?_eq_some_iff.1 hj).1
    simpa [u8s] using this
  obtain ⟨a', ea, hc⟩ := h.2 j hj'
  obtain rfl := Option.some.inj ea
  rw [hc, ← hj, u8s, List.getElem?_map, List.getD_eq_getElem?_getD, List.getElem?_eq_getElem hj']; rfl
theorem Bytes.none_nil {w : World} {bs : List Nat} (hb : Bytes w none bs) : bs = [] := by
  cases bs with
  | nil => rfl
  | cons x l => obtain ⟨a, ea, _⟩ := hb.2 0 (by simp); cases ea

theorem frame_long (ao : Option Addr) (cap : Nat) (bs : List Nat) (w : World) (h : 65536 < bs.length) :
    Calls Tryz.prog 151 #[.slice ao bs.length cap] w fun e w' => e = .returned (.tuple #[.slice none 0 0, .int .i64 5]) ∧ w' = w := by
  go_enter Tryz.func151, Tryz.ntmps151
  go_wp2
  go_ret2
  exact ⟨rfl, rfl⟩

set_option maxRecDepth 8000 in
set_option maxHeartbeats 1000000 in
theorem frame_some (a : Addr) (cap : Nat) (bs : List Nat) (w : World) (hb : Bytes w (some a) bs) (hl : bs.length ≤ 65536) (hT : Table w) (hz : 1 < w.heap.size) :
    Calls Tryz.prog 151 #[.slice (some a) bs.length cap] w fun e w' => ∃ v', e = .returned (.tuple #[v', .int .i64 0]) ∧ Own w.heap.size w' v' (frame bs) ∧ Below w.heap.size w w' := by
  obtain ⟨i0, hi, hz0, hz1, hz2⟩ := info_parts Tryz.info5
  have hcl := Sum.crc_lt hb.1
  have HB := hide hb
  have HT := hide hT
  have HZ := hide hz
  clear hb hT hz
  go_enter Tryz.func151, Tryz.ntmps151
  go_wp2_with (at_make; refine wpList_make_own _ rfl _ _ 55 rfl w.heap.size 5 i0 (.int .u8 0) 1 Tryz.underlying55 hi hz0 hz1 .i64 .i64 _ (8 + bs.length) rfl rfl (by omega) (by rw [hz2]; omega) (by unfold maxLen; omega) (Nat.le_refl _) ?_)
  intro w1 hown1 hgrow1
  have o1 : Own w.heap.size w1 (.slice (some ⟨w.heap.size, 0, none⟩) 0 (8 + bs.length)) [] := ⟨hown1, by simp⟩
  have b1 : Below w.heap.size w w1 := (Below.refl _ _).grown hgrow1 (Nat.le_refl _) (fun k hk => by cases hk)
  have O1 := hide o1
  have B1 := hide b1
  have s1 := b1.size
  clear o1 b1 hown1 hgrow1
  go_wp2_with fail
  refine (put4 w.heap.size _ [] bs.length w1 (unhide O1) (by simp) s1 (by omega)).mono ?_
  rintro e w2 ⟨v2, rfl, o2, k2⟩
  have O2 := hide o2
  have b2 := (unhide B1).trans k2.below
  have s2 := b2.size
  have B2 := hide b2
  clear o2 k2 O1 B1 b2
  go_wp2_with fail
  refine (crc_some a cap bs w2 ((unhide HB).below (unhide B2)) (by omega) ((unhide HT).below (unhide B2) (unhide HZ))).mono ?_
  rintro e w2' ⟨rfl, rfl⟩
  go_wp2_with fail
  refine (put4 w.heap.size v2 _ (Sum.crc bs) w2' (unhide O2) (by simp [be4]) s2 (by omega)).mono ?_
  rintro e w3 ⟨v3, rfl, o3, k3⟩
  have b3 := (unhide B2).trans k3.below
  have s3 := b3.size
  have l3 : ([] ++ be4 bs.length ++ be4 (Sum.crc bs)).length = 8 := by simp [be4]
  have hown3 : w3.ownsRow w.heap.size 5 1 v3 8 (u8s ([] ++ be4 bs.length ++ be4 (Sum.crc bs))) := by rw [← l3]; exact o3.1
  have hnw := ((unhide HB).below b3).news
  have O3 := hide o3
  have B3 := hide b3
  clear o3 k3 O2 B2 b3 l3
  go_wp2_with (at_builtin; refine wpList_append_own _ rfl (.tmp 22) (.tmp 23) 55 rfl w.heap.size 5 i0 (.int .u8 0) 1 1 Tryz.underlying55 hi hz0 hz1 hz2 rfl (by decide) _ _ _ rfl hown3 a bs.length cap (u8s bs) rfl (by simp [u8s]) hnw (u8s_one bs) (by unfold maxLen; omega) (by omega) s3 ?_)
  intro v4 w4 hown4 hgrow4 _
  have b4 : Below w.heap.size w w4 := (unhide B3).grown hgrow4 s3 (fun k hk => (hown3.lt k hk).1)
  have B4 := hide b4
  have O4 := hide hown4
  clear b4 hown4 hgrow4 hown3 hnw
  go_wp2
  go_ret2
  refine ⟨_, rfl, ⟨?_, ?_⟩, unhide B4⟩
  · have h := unhide O4
    have e1 : (frame bs).length = 8 + bs.length := by simp [frame, be4]; omega
    have e2 : u8s (frame bs) = u8s (be4 bs.length) ++ (u8s (be4 (Sum.crc bs)) ++ u8s bs) := by simp [u8s, frame]
    rw [e1, e2]; exact h
  · intro x hx
    simp only [frame, List.append_assoc, List.mem_append] at hx
    rcases hx with h | h | h
    · exact be4_lt _ x h
    · exact be4_lt _ x h
    · exact (unhide HB).1 x h

set_option maxRecDepth 8000 in
set_option maxHeartbeats 1000000 in
theorem frame_none (w : World) (hT : Table w) (hz : 1 < w.heap.size) :
    Calls Tryz.prog 151 #[.slice none 0 0] w fun e w' => ∃ v', e = .returned (.tuple #[v', .int .i64 0]) ∧ Own w.heap.size w' v' (frame []) ∧ Below w.heap.size w w' := by
  obtain ⟨i0, hi, hz0, hz1, hz2⟩ := info_parts Tryz.info5
  have HT := hide hT
  have HZ := hide hz
  clear hT hz
  go_enter Tryz.func151, Tryz.ntmps151
  go_wp2_with (at_make; refine wpList_make_own _ rfl _ _ 55 rfl w.heap.size 5 i0 (.int .u8 0) 1 Tryz.underlying55 hi hz0 hz1 .i64 .i64 _ 8 rfl rfl (by omega) (by rw [hz2]; omega) (by unfold maxLen; omega) (Nat.le_refl _) ?_)
  intro w1 hown1 hgrow1
  have o1 : Own w.heap.size w1 (.slice (some ⟨w.heap.size, 0, none⟩) 0 8) [] := ⟨hown1, by simp⟩
  have b1 : Below w.heap.size w w1 := (Below.refl _ _).grown hgrow1 (Nat.le_refl _) (fun k hk => by cases hk)
  have O1 := hide o1
  have B1 := hide b1
  have s1 := b1.size
  clear o1 b1 hown1 hgrow1
  go_wp2_with fail
  refine (put4 w.heap.size _ [] 0 w1 (unhide O1) (by simp) s1 (by omega)).mono ?_
  rintro e w2 ⟨v2, rfl, o2, k2⟩
  have O2 := hide o2
  have b2 := (unhide B1).trans k2.below
  have s2 := b2.size
  have B2 := hide b2
  clear o2 k2 O1 B1 b2
  go_wp2_with fail
  refine (crc_none [] w2 ⟨by simp, by simp⟩).mono ?_
  rintro e w2' ⟨rfl, rfl⟩
  have ec : Sum.crc [] = 0 := by decide
  rw [ec]
  go_wp2_with fail
  refine (put4 w.heap.size v2 _ 0 w2' (unhide O2) (by simp [be4]) s2 (by omega)).mono ?_
  rintro e w3 ⟨v3, rfl, o3, k3⟩
  have b3 := (unhide B2).trans k3.below
  have hown3 := o3.1
  have O3 := hide o3
  have B3 := hide b3
  clear o3 k3 O2 B2 b3
  go_wp2_with (at_builtin; refine wpList_append_own_none rfl (.tmp 22) (.tmp 23) 55 rfl w.heap.size 5 i0 1 Tryz.underlying55 hi _ _ _ rfl hown3 rfl ?_)
  go_wp2
  go_ret2
  refine ⟨_, rfl, ?_, unhide B3⟩
  have e : frame [] = [] ++ be4 0 ++ be4 0 := by decide
  rw [e]
  exact unhide O3

/-- Frame of whatever slice of bytes, in one. -/
theorem frame_any (ao : Option Addr) (cap : Nat) (bs : List Nat) (w : World) (hb : Bytes w ao bs) (hc : ao = none → cap = 0) (hl : bs.length ≤ 65536) (hT : Table w) (hz : 1 < w.heap.size) :
    Calls Tryz.prog 151 #[.slice ao bs.length cap] w fun e w' => ∃ v', e = .returned (.tuple #[v', .int .i64 0]) ∧ Own w.heap.size w' v' (frame bs) ∧ Below w.heap.size w w' := by
  cases ao with
  | none =>
    obtain rfl := hb.none_nil
    obtain rfl := hc rfl
    exact frame_none w hT hz
  | some a => exact frame_some a cap bs w hb hl hT hz
/-- Crc of whatever slice of bytes. -/
theorem crc_any (ao : Option Addr) (cap : Nat) (bs : List Nat) (w : World) (hb : Bytes w ao bs) (hc : ao = none → cap = 0) (hl : bs.length ≤ 140737488355328) (hT : Table w) :
    Calls Tryz.prog 222 #[.slice ao bs.length cap] w fun e w' => e = .returned (.int .u32 ((Sum.crc bs : Nat) : Int)) ∧ w' = w := by
  cases ao with
  | none => obtain rfl := hc rfl; exact crc_none bs w hb
  | some a => exact crc_some a cap bs w hb hl hT
theorem joined_any (ao : Option Addr) (cap : Nat) (bs : List Nat) (w : World) (hb : Bytes w ao bs) (hl : bs.length ≤ 140737488355328) :
    Calls Tryz.prog 267 #[.slice ao bs.length cap] w fun e w' => e = .returned (.int .u64 ((joinTo 0 bs : Nat) : Int)) ∧ w' = w := by
  cases ao with
  | none => exact joined_none cap bs w hb
  | some a => exact joined_some a cap bs w hb hl
theorem crc_len (ao : Option Addr) (n cap : Nat) (bs : List Nat) (hn : bs.length = n) (w : World) (hb : Bytes w ao bs) (hc : ao = none → cap = 0) (hl : n ≤ 140737488355328) (hT : Table w) :
    Calls Tryz.prog 222 #[.slice ao n cap] w fun e w' => e = .returned (.int .u32 ((Sum.crc bs : Nat) : Int)) ∧ w' = w := by
  subst hn; exact crc_any ao cap bs w hb hc hl hT
theorem joined_len (ao : Option Addr) (n cap : Nat) (bs : List Nat) (hn : bs.length = n) (w : World) (hb : Bytes w ao bs) (hl : n ≤ 140737488355328) :
    Calls Tryz.prog 267 #[.slice ao n cap] w fun e w' => e = .returned (.int .u64 ((joinTo 0 bs : Nat) : Int)) ∧ w' = w := by
  subst hn; exact joined_any ao cap bs w hb hl
theorem Bytes.drop {w : World} {a : Addr} {bs : List Nat} (h : Bytes w (some a) bs) (k : Nat) : Bytes w (some (a.add k)) (bs.drop k) := by
  refine ⟨fun x hx => h.1 x (List.mem_of_mem_drop hx), fun i hi => ⟨_, rfl, ?_⟩⟩
  rw [List.length_drop] at hi
  obtain ⟨a', ea, hc⟩ := h.2 (k + i) (by omega)
  obtain rfl := Option.some.inj ea
  rw [Addr.add_add, hc]
  simp [List.getD_eq_getElem?_getD]
theorem Bytes.take {w : World} {ao : Option Addr} {bs : List Nat} (h : Bytes w ao bs) (k : Nat) : Bytes w ao (bs.take k) := by
  refine ⟨fun x hx => h.1 x (List.mem_of_mem_take hx), fun i hi => ?_⟩
  rw [List.length_take] at hi
  obtain ⟨a', ea, hc⟩ := h.2 i (by omega)
  refine ⟨a', ea, ?_⟩
  rw [hc, List.getD_eq_getElem?_getD, List.getD_eq_getElem?_getD, List.getElem?_take_of_lt (by omega)]
end Go.Proofs.YtjplhiflemmkfaaGreatDoor
