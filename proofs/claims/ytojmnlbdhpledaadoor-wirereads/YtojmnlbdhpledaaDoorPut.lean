/- wire.appendNumber onto a row of the call's own. wire.Crc, wire.joined: contracts. wire.Frame: a contract. -/
import Derived.Test.YtojmnlbdhpledaaDoorBase
namespace Go.Proofs.YtojmnlbdhpledaaDoor
open Go.RowKit

theorem one1 (a : Int) : ∀ u ∈ [Value.int .u8 a], u.oneCell' = true := by intro u hu; simp only [List.mem_cons, List.not_mem_nil, or_false] at hu; subst hu; rfl
theorem one3 (a b c : Int) : ∀ u ∈ [Value.int .u8 a, Value.int .u8 b, Value.int .u8 c], u.oneCell' = true := by intro u hu; simp only [List.mem_cons, List.not_mem_nil, or_false] at hu; rcases hu with rfl | rfl | rfl <;> rfl
theorem one4 (a b c d : Int) : ∀ u ∈ [Value.int .u8 a, Value.int .u8 b, Value.int .u8 c, Value.int .u8 d], u.oneCell' = true := by intro u hu; simp only [List.mem_cons, List.not_mem_nil, or_false] at hu; rcases hu with rfl | rfl | rfl | rfl <;> rfl

set_option maxHeartbeats 1000000 in
theorem put4 (base : Nat) (v : Value) (bs : List Nat) (n : Nat) (w : World) (hown : Own base w v bs) (hl : bs.length ≤ 1000000000) (hbase : base ≤ w.heap.size) (_hn : n < 18446744073709551616) :
    Calls Tryd.prog 73 #[v, .int .i64 4, .int .u64 n] w fun e w' => ∃ v', e = .returned v' ∧ Own base w' v' (bs ++ be4 n) ∧ Only base [5] w w' := by
  obtain ⟨i0, hi, hz0, hz1, hz2⟩ := info_parts Tryd.info5
  obtain ⟨hown, hby⟩ := hown
  have HY := hide hby
  clear hby
  go_enter Tryd.func73, Tryd.ntmps73
  go_wp2_with (at_builtin; refine wpList_append_own _ rfl (.tmp 27) (.tmp 37) 27 rfl base 5 i0 (.int .u8 0) 1 1 Tryd.underlying27 hi hz0 hz1 hz2 rfl (by decide) _ _ _ rfl (hown.alloc _) ⟨w.heap.size, 0, none⟩ 3 3 _ rfl rfl news_at (one3 _ _ _) (by unfold maxLen; omega) (by omega) (by simp; omega) ?_)
  intro v1 w1 hown1 hgrow1 _
  have ho1 := ((Only.refl base [5] w).alloc hbase _).own (hown.alloc _) hgrow1 (by simp; omega) (Nat.le_refl _) (by simp)
  have hs1 : base ≤ w1.heap.size := Nat.le_trans hbase ho1.size
  have HO1 := hide ho1
  clear ho1 hgrow1 hown
  go_wp2_with (at_builtin; refine wpList_append_own _ rfl (.tmp 39) (.tmp 42) 27 rfl base 5 i0 (.int .u8 0) 1 1 Tryd.underlying27 hi hz0 hz1 hz2 rfl (by decide) _ _ _ rfl (hown1.alloc _) ⟨w1.heap.size, 0, none⟩ 1 1 _ rfl rfl news_at (one1 _) (by unfold maxLen; omega) (by omega) (by simp; omega) ?_)
  intro v2 w2 hown2 hgrow2 _
  have ho2 := ((unhide HO1).alloc hs1 _).own (hown1.alloc _) hgrow2 (by simp; omega) (Nat.le_refl _) (by simp)
  have HO2 := hide ho2
  have HW2 := hide hown2
  clear ho2 hgrow2 hown1 hown2
  go_wp2
  go_ret
  refine ⟨_, rfl, ⟨?_, ?_⟩, unhide HO2⟩
  · have h := unhide HW2
    have e : u8s bs ++ [Value.int .u8 ((n : Int) / 16777216 % 256), .int .u8 ((n : Int) / 65536 % 256), .int .u8 ((n : Int) / 256 % 256), .int .u8 ((n : Int) % 256)] = u8s (bs ++ be4 n) := by simp [u8s, be4]
    have e2 : (bs ++ be4 n).length = bs.length + 3 + 1 := by simp [be4]
    rw [e2, ← e]; exact h
  · intro x hx
    rcases List.mem_append.1 hx with h | h
    · exact unhide HY x h
    · exact be4_lt n x h

set_option maxHeartbeats 1000000 in
theorem put8 (base : Nat) (v : Value) (bs : List Nat) (n : Nat) (w : World) (hown : Own base w v bs) (hl : bs.length ≤ 1000000000) (hbase : base ≤ w.heap.size) (hn : n < 18446744073709551616) :
    Calls Tryd.prog 73 #[v, .int .i64 8, .int .u64 n] w fun e w' => ∃ v', e = .returned v' ∧ Own base w' v' (bs ++ be8 n) ∧ Only base [5] w w' := by
  obtain ⟨i0, hi, hz0, hz1, hz2⟩ := info_parts Tryd.info5
  obtain ⟨hown, hby⟩ := hown
  have HY := hide hby
  clear hby
  go_enter Tryd.func73, Tryd.ntmps73
  go_wp2_with (at_builtin; refine wpList_append_own _ rfl (.tmp 12) (.tmp 25) 27 rfl base 5 i0 (.int .u8 0) 1 1 Tryd.underlying27 hi hz0 hz1 hz2 rfl (by decide) _ _ _ rfl (hown.alloc _) ⟨w.heap.size, 0, none⟩ 4 4 _ rfl rfl news_at (one4 _ _ _ _) (by unfold maxLen; omega) (by omega) (by simp; omega) ?_)
  intro v0 w0 hown0 hgrow0 _
  have ho0 := ((Only.refl base [5] w).alloc hbase _).own (hown.alloc _) hgrow0 (by simp; omega) (Nat.le_refl _) (by simp)
  have hs0 : base ≤ w0.heap.size := Nat.le_trans hbase ho0.size
  have HO0 := hide ho0
  clear ho0 hgrow0 hown
  go_wp2_with (at_builtin; refine wpList_append_own _ rfl (.tmp 27) (.tmp 37) 27 rfl base 5 i0 (.int .u8 0) 1 1 Tryd.underlying27 hi hz0 hz1 hz2 rfl (by decide) _ _ _ rfl (hown0.alloc _) ⟨w0.heap.size, 0, none⟩ 3 3 _ rfl rfl news_at (one3 _ _ _) (by unfold maxLen; omega) (by omega) (by simp; omega) ?_)
  intro v1 w1 hown1 hgrow1 _
  have ho1 := ((unhide HO0).alloc hs0 _).own (hown0.alloc _) hgrow1 (by simp; omega) (Nat.le_refl _) (by simp)
  have hs1 : base ≤ w1.heap.size := Nat.le_trans hbase ho1.size
  have HO1 := hide ho1
  clear ho1 hgrow1 hown0
  go_wp2_with (at_builtin; refine wpList_append_own _ rfl (.tmp 39) (.tmp 42) 27 rfl base 5 i0 (.int .u8 0) 1 1 Tryd.underlying27 hi hz0 hz1 hz2 rfl (by decide) _ _ _ rfl (hown1.alloc _) ⟨w1.heap.size, 0, none⟩ 1 1 _ rfl rfl news_at (one1 _) (by unfold maxLen; omega) (by omega) (by simp; omega) ?_)
  intro v2 w2 hown2 hgrow2 _
  have ho2 := ((unhide HO1).alloc hs1 _).own (hown1.alloc _) hgrow2 (by simp; omega) (Nat.le_refl _) (by simp)
  have HO2 := hide ho2
  have HW2 := hide hown2
  clear ho2 hgrow2 hown1 hown2
  go_wp2
  go_ret
  refine ⟨_, rfl, ⟨?_, ?_⟩, unhide HO2⟩
  · have h := unhide HW2
    have e : u8s bs ++ [Value.int .u8 ((n : Int) / 72057594037927936), .int .u8 ((n : Int) / 281474976710656 % 256), .int .u8 ((n : Int) / 1099511627776 % 256), .int .u8 ((n : Int) / 4294967296 % 256), .int .u8 ((n : Int) / 16777216 % 256), .int .u8 ((n : Int) / 65536 % 256), .int .u8 ((n : Int) / 256 % 256), .int .u8 ((n : Int) % 256)] = u8s (bs ++ be8 n) := by simp [u8s, be8]; omega
    have e2 : (bs ++ be8 n).length = bs.length + 4 + 3 + 1 := by simp [be8]
    rw [e2, ← e]; exact h
  · intro x hx
    rcases List.mem_append.1 hx with h | h
    · exact unhide HY x h
    · exact be8_lt n x h
end Go.Proofs.YtojmnlbdhpledaaDoor
namespace Go.Proofs.YtojmnlbdhpledaaDoor
open Go.RowKit

set_option maxHeartbeats 1000000 in
theorem crc_some (a : Addr) (cap : Nat) (bs : List Nat) (w : World) (hb : Bytes w (some a) bs) (hl : bs.length ≤ 140737488355328) (hH : Table w) :
    Calls Tryd.prog 30 #[.slice (some a) bs.length cap] w fun e w' => e = .returned (.int .u32 ((Sum.crc bs : Nat) : Int)) ∧ w' = w := by
  have HB := hide hb
  have HT := hide hH
  clear hb hH
  go_enter Tryd.func30, Tryd.ntmps30
  go_wp2
  go_loop [3, 8] (fun s i => ∃ k : Nat, k ≤ bs.length ∧ i = .int .i64 k ∧ s = .int .u32 ((Sum.run 4294967295 (bs.take k) : Nat) : Int)) (fun _ i => bs.length - (intOf i).toNat)
  case atStart => exact ⟨0, Nat.zero_le _, rfl, rfl⟩
  case round =>
    obtain ⟨k, hk, rfl, rfl⟩ := hrel
    by_cases hlt : k < bs.length
    · obtain ⟨a', ea, hc⟩ := (unhide HB).2 k hlt
      obtain rfl := Option.some.inj ea
      have hx := getD_lt (unhide HB).1 k
      have hs := Sum.run_lt (bs.take k) (s := 4294967295) (by decide) (fun x hx => (unhide HB).1 x (List.mem_of_mem_take hx))
      have HE : Hid (Sum.run 4294967295 (bs.take (k + 1)) = Sum.byte (Sum.run 4294967295 (bs.take k)) (bs.getD k 0)) := by
        show _ = _
        rw [take_succ bs 0 k hlt, Sum.run_append]; rfl
      generalize bs.getD k 0 = x at *
      generalize Sum.run 4294967295 (bs.take k) = s at *
      have h1 := Sum.xor_lt hs (show x < 4294967296 by omega)
      have h2 := Sum.half_lt h1
      have e1 : bits .xor .u32 (s : Int) (x : Int) = ((s ^^^ x : Nat) : Int) := u32_xor_nat s x hs (by omega)
      have c1 := (unhide HT) ((s ^^^ x) % 16) (Nat.mod_lt _ (by decide))
      have a1 : bits .and .u32 ((s ^^^ x : Nat) : Int) 15 = (((s ^^^ x) % 16 : Nat) : Int) := (u32_and_nat _ 15 h1 (by decide)).trans (by rw [nat_mask4])
      have x1 : bits .xor .u32 (((s ^^^ x : Nat) : Int) / 16) ((Sum.halves.getD ((s ^^^ x) % 16) 0 : Nat) : Int) = ((Sum.half (s ^^^ x) : Nat) : Int) := by
        have := u32_xor_nat ((s ^^^ x) / 16) (Sum.halves.getD ((s ^^^ x) % 16) 0) (by omega) (Sum.halves_lt _)
        simpa [Sum.half] using this
      have HD : Hid (Sum.byte s x = Sum.half (Sum.half (s ^^^ x))) := rfl
      have b1 : (s ^^^ x) % 16 < 16 := Nat.mod_lt _ (by decide)
      generalize Sum.halves.getD ((s ^^^ x) % 16) 0 = y1 at *
      generalize (s ^^^ x) % 16 = i1 at *
      generalize s ^^^ x = t at *
      have c2 := (unhide HT) ((Sum.half t) % 16) (Nat.mod_lt _ (by decide))
      have a2 : bits .and .u32 ((Sum.half t : Nat) : Int) 15 = (((Sum.half t) % 16 : Nat) : Int) := (u32_and_nat _ 15 h2 (by decide)).trans (by rw [nat_mask4])
      have x2 : bits .xor .u32 (((Sum.half t : Nat) : Int) / 16) ((Sum.halves.getD ((Sum.half t) % 16) 0 : Nat) : Int) = ((Sum.half (Sum.half t) : Nat) : Int) := by
        have := u32_xor_nat ((Sum.half t) / 16) (Sum.halves.getD ((Sum.half t) % 16) 0) (by omega) (Sum.halves_lt _)
        simpa [Sum.half] using this
      have b2 : (Sum.half t) % 16 < 16 := Nat.mod_lt _ (by decide)
      generalize Sum.halves.getD ((Sum.half t) % 16) 0 = y2 at *
      generalize (Sum.half t) % 16 = i2 at *
      generalize Sum.half (Sum.half t) = t2 at *
      generalize Sum.half t = t1 at *
      go_wp2
      go_round
      case rel => exact ⟨k + 1, by omega, by go_num, by rw [unhide HE, unhide HD]⟩
      case measure => simp [intOf]; omega
    · have he : bs.take k = bs := List.take_of_length_le (by omega)
      have hs := Sum.run_lt (bs.take k) (s := 4294967295) (by decide) (fun x hx => (unhide HB).1 x (List.mem_of_mem_take hx))
      have HE : Hid (Sum.crc bs = 4294967295 ^^^ Sum.run 4294967295 (bs.take k)) := by show _ = _; rw [he]; rfl
      clear he
      generalize Sum.run 4294967295 (bs.take k) = s at *
      go_wp2
      go_ret
      refine ⟨ret_int ?_, rfl⟩
      rw [unhide HE]
      exact u32_xor_nat 4294967295 s (by decide) hs

theorem crc_none (bs : List Nat) (w : World) (hb : Bytes w none bs) :
    Calls Tryd.prog 30 #[.slice none bs.length 0] w fun e w' => e = .returned (.int .u32 ((Sum.crc bs : Nat) : Int)) ∧ w' = w := by
  have he : bs = [] := by
    cases bs with
    | nil => rfl
    | cons x l => obtain ⟨a, ea, _⟩ := hb.2 0 (by simp); cases ea
  subst he
  go_enter Tryd.func30, Tryd.ntmps30
  go_wp2
  refine wp_loop_rounds 1 ?_; rw [rounds_succ]
  go_wp2
  go_ret
  exact ⟨rfl, rfl⟩

set_option maxHeartbeats 1000000 in
theorem joined_some (a : Addr) (cap : Nat) (bs : List Nat) (w : World) (hb : Bytes w (some a) bs) (hl : bs.length ≤ 140737488355328) :
    Calls Tryd.prog 75 #[.slice (some a) bs.length cap] w fun e w' => e = .returned (.int .u64 ((joinTo 0 bs : Nat) : Int)) ∧ w' = w := by
  have HB := hide hb
  clear hb
  go_enter Tryd.func75, Tryd.ntmps75
  go_wp2
  go_loop [3, 8] (fun s i => ∃ k : Nat, k ≤ bs.length ∧ i = .int .i64 k ∧ s = .int .u64 ((joinTo 0 (bs.take k) : Nat) : Int) ∧ joinTo 0 (bs.take k) < 18446744073709551616) (fun _ i => bs.length - (intOf i).toNat)
  case atStart => exact ⟨0, Nat.zero_le _, rfl, rfl, by simp [joinTo]⟩
  case round =>
    obtain ⟨k, hk, rfl, rfl, hs⟩ := hrel
    by_cases hlt : k < bs.length
    · obtain ⟨a', ea, hc⟩ := (unhide HB).2 k hlt
      obtain rfl := Option.some.inj ea
      have hx := getD_lt (unhide HB).1 k
      have HE : Hid (joinTo 0 (bs.take (k + 1)) = joinTo 0 (bs.take k) * 256 % 18446744073709551616 + bs.getD k 0) := by
        show _ = _
        rw [take_succ bs 0 k hlt, joinTo, List.foldl_append]; rfl
      generalize bs.getD k 0 = x at *
      generalize joinTo 0 (bs.take k) = s at *
      have e1 : bits .or .u64 (IntKind.u64.wrap ((s : Int) * 256)) (x : Int) = ((s * 256 % 18446744073709551616 + x : Nat) : Int) := by
        have := u64_or_nat (s * 256 % 18446744073709551616) x (by omega) (by omega)
        rw [nat_join 8 _ x (by omega) hx] at this
        rw [IntKind.wrap_u64]
        simpa using this
      go_wp2
      go_round
      case rel => exact ⟨k + 1, by omega, by go_num, by rw [unhide HE]; simp, by rw [unhide HE]; omega⟩
      case measure => simp [intOf]; omega
    · have he : bs.take k = bs := List.take_of_length_le (by omega)
      rw [he] at hs ⊢
      clear he
      go_wp2
      go_ret
      exact ⟨rfl, rfl⟩
theorem joined_none (cap : Nat) (bs : List Nat) (w : World) (hb : Bytes w none bs) :
    Calls Tryd.prog 75 #[.slice none bs.length cap] w fun e w' => e = .returned (.int .u64 ((joinTo 0 bs : Nat) : Int)) ∧ w' = w := by
  have he : bs = [] := by
    cases bs with
    | nil => rfl
    | cons x l => obtain ⟨a, ea, _⟩ := hb.2 0 (by simp); cases ea
  subst he
  go_enter Tryd.func75, Tryd.ntmps75
  go_wp2
  refine wp_loop_rounds 1 ?_; rw [rounds_succ]
  go_wp2
  go_ret
  exact ⟨rfl, rfl⟩
end Go.Proofs.YtojmnlbdhpledaaDoor
namespace Go.Proofs.YtojmnlbdhpledaaDoor
open Go.RowKit

theorem Bytes.news {w : World} {a : Addr} {bs : List Nat} (h : Bytes w (some a) bs) : ∀ j u, (u8s bs)[j]? = some u → w.cell? (a.add j) = some u := by
  intro j u hj
  have hj' : j < bs.length := by
    have := (List.getElem?_eq_some_iff.1 hj).1
    simpa [u8s] using this
  obtain ⟨a', ea, hc⟩ := h.2 j hj'
  obtain rfl := Option.some.inj ea
  rw [hc, ← hj, u8s, List.getElem?_map, List.getD_eq_getElem?_getD, List.getElem?_eq_getElem hj']; rfl
theorem Bytes.none_nil {w : World} {bs : List Nat} (hb : Bytes w none bs) : bs = [] := by
  cases bs with
  | nil => rfl
  | cons x l => obtain ⟨a, ea, _⟩ := hb.2 0 (by simp); cases ea

/-- Crc of whatever slice of bytes. -/
theorem crc_any (ao : Option Addr) (cap : Nat) (bs : List Nat) (w : World) (hb : Bytes w ao bs) (hc : ao = none → cap = 0) (hl : bs.length ≤ 140737488355328) (hT : Table w) :
    Calls Tryd.prog 30 #[.slice ao bs.length cap] w fun e w' => e = .returned (.int .u32 ((Sum.crc bs : Nat) : Int)) ∧ w' = w := by
  cases ao with
  | none => obtain rfl := hc rfl; exact crc_none bs w hb
  | some a => exact crc_some a cap bs w hb hl hT
theorem joined_any (ao : Option Addr) (cap : Nat) (bs : List Nat) (w : World) (hb : Bytes w ao bs) (hl : bs.length ≤ 140737488355328) :
    Calls Tryd.prog 75 #[.slice ao bs.length cap] w fun e w' => e = .returned (.int .u64 ((joinTo 0 bs : Nat) : Int)) ∧ w' = w := by
  cases ao with
  | none => exact joined_none cap bs w hb
  | some a => exact joined_some a cap bs w hb hl
theorem crc_len (ao : Option Addr) (n cap : Nat) (bs : List Nat) (hn : bs.length = n) (w : World) (hb : Bytes w ao bs) (hc : ao = none → cap = 0) (hl : n ≤ 140737488355328) (hT : Table w) :
    Calls Tryd.prog 30 #[.slice ao n cap] w fun e w' => e = .returned (.int .u32 ((Sum.crc bs : Nat) : Int)) ∧ w' = w := by
  subst hn; exact crc_any ao cap bs w hb hc hl hT
theorem joined_len (ao : Option Addr) (n cap : Nat) (bs : List Nat) (hn : bs.length = n) (w : World) (hb : Bytes w ao bs) (hl : n ≤ 140737488355328) :
    Calls Tryd.prog 75 #[.slice ao n cap] w fun e w' => e = .returned (.int .u64 ((joinTo 0 bs : Nat) : Int)) ∧ w' = w := by
  subst hn; exact joined_any ao cap bs w hb hl
theorem Bytes.drop {w : World} {a : Addr} {bs : List Nat} (h : Bytes w (some a) bs) (k : Nat) : Bytes w (some (a.add k)) (bs.drop k) := by
  refine ⟨fun x hx => h.1 x (List.mem_of_mem_drop hx), fun i hi => ⟨_, rfl, ?_⟩⟩
  rw [List.length_drop] at hi
  obtain ⟨a', ea, hc⟩ := h.2 (k + i) (by omega)
  obtain rfl := Option.some.inj ea
  rw [Addr.add_add, hc]
  simp [List.getD_eq_getElem?_getD]
theorem Bytes.take {w : World} {ao : Option Addr} {bs : List Nat} (h : Bytes w ao bs) (k : Nat) : Bytes w ao (bs.take k) := by
  refine ⟨fun x hx => h.1 x (List.mem_of_mem_take hx), fun i hi => ?_⟩
  rw [List.length_take] at hi
  obtain ⟨a', ea, hc⟩ := h.2 i (by omega)
  refine ⟨a', ea, ?_⟩
  rw [hc, List.getD_eq_getElem?_getD, List.getD_eq_getElem?_getD, List.getElem?_take_of_lt (by omega)]
end Go.Proofs.YtojmnlbdhpledaaDoor
