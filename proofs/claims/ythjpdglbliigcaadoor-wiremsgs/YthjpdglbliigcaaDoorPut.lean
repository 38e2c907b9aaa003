/- wire.appendNumber onto a row of the call's own. -/
import Derived.Test.YthjpdglbliigcaaDoorBase
namespace Go.Proofs.YthjpdglbliigcaaDoor
open Go.RowKit

theorem one1 (a : Int) : ∀ u ∈ [Value.int .u8 a], u.oneCell' = true := by intro u hu; simp only [List.mem_cons, List.not_mem_nil, or_false] at hu; subst hu; rfl
theorem one3 (a b c : Int) : ∀ u ∈ [Value.int .u8 a, Value.int .u8 b, Value.int .u8 c], u.oneCell' = true := by intro u hu; simp only [List.mem_cons, List.not_mem_nil, or_false] at hu; rcases hu with rfl | rfl | rfl <;> rfl
theorem one4 (a b c d : Int) : ∀ u ∈ [Value.int .u8 a, Value.int .u8 b, Value.int .u8 c, Value.int .u8 d], u.oneCell' = true := by intro u hu; simp only [List.mem_cons, List.not_mem_nil, or_false] at hu; rcases hu with rfl | rfl | rfl | rfl <;> rfl

set_option maxHeartbeats 1000000 in
theorem put4 (base : Nat) (v : Value) (bs : List Nat) (n : Nat) (w : World) (hown : Own base w v bs) (hl : bs.length ≤ 1000000000) (hbase : base ≤ w.heap.size) (_hn : n < 18446744073709551616) :
    Calls Tryd.prog 73 #[v, .int .i64 4, .int .u64 n] w fun e w' => ∃ v', e = .returned v' ∧ Own base w' v' (bs ++ be4 n) ∧ Only base [5] w w' := by
  obtain ⟨i0, hi, hz0, hz1, hz2⟩ := info_parts Tryd.info5
  obtain ⟨hown, hby⟩ := hown
  have HY := hide hby
  clear hby
  go_enter Tryd.func73, Tryd.ntmps73
  go_wp2_with (at_builtin; refine wpList_append_own _ rfl (.tmp 27) (.tmp 37) 27 rfl base 5 i0 (.int .u8 0) 1 1 Tryd.underlying27 hi hz0 hz1 hz2 rfl (by decide) _ _ _ rfl (hown.alloc _) ⟨w.heap.size, 0, none⟩ 3 3 _ rfl rfl news_at (one3 _ _ _) (by unfold maxLen; omega) (by omega) (by simp; omega) ?_)
  intro v1 w1 hown1 hgrow1 _
  have ho1 := ((Only.refl base [5] w).alloc hbase _).own (hown.alloc _) hgrow1 (by simp; omega) (Nat.le_refl _) (by simp)
  have hs1 : base ≤ w1.heap.size := Nat.le_trans hbase ho1.size
  have HO1 := hide ho1
  clear ho1 hgrow1 hown
  go_wp2_with (at_builtin; refine wpList_append_own _ rfl (.tmp 39) (.tmp 42) 27 rfl base 5 i0 (.int .u8 0) 1 1 Tryd.underlying27 hi hz0 hz1 hz2 rfl (by decide) _ _ _ rfl (hown1.alloc _) ⟨w1.heap.size, 0, none⟩ 1 1 _ rfl rfl news_at (one1 _) (by unfold maxLen; omega) (by omega) (by simp; omega) ?_)
  intro v2 w2 hown2 hgrow2 _
  have ho2 := ((unhide HO1).alloc hs1 _).own (hown1.alloc _) hgrow2 (by simp; omega) (Nat.le_refl _) (by simp)
  have HO2 := hide ho2
  have HW2 := hide hown2
  clear ho2 hgrow2 hown1 hown2
  go_wp2
  go_ret
  refine ⟨_, rfl, ⟨?_, ?_⟩, unhide HO2⟩
  · have h := unhide HW2
    have e : u8s bs ++ [Value.int .u8 ((n : Int) / 16777216 % 256), .int .u8 ((n : Int) / 65536 % 256), .int .u8 ((n : Int) / 256 % 256), .int .u8 ((n : Int) % 256)] = u8s (bs ++ be4 n) := by simp [u8s, be4]
    have e2 : (bs ++ be4 n).length = bs.length + 3 + 1 := by simp [be4]
    rw [e2, ← e]; exact h
  · intro x hx
    rcases List.mem_append.1 hx with h | h
    · exact unhide HY x h
    · exact be4_lt n x h

set_option maxHeartbeats 1000000 in
theorem put8 (base : Nat) (v : Value) (bs : List Nat) (n : Nat) (w : World) (hown : Own base w v bs) (hl : bs.length ≤ 1000000000) (hbase : base ≤ w.heap.size) (hn : n < 18446744073709551616) :
    Calls Tryd.prog 73 #[v, .int .i64 8, .int .u64 n] w fun e w' => ∃ v', e = .returned v' ∧ Own base w' v' (bs ++ be8 n) ∧ Only base [5] w w' := by
  obtain ⟨i0, hi, hz0, hz1, hz2⟩ := info_parts Tryd.info5
  obtain ⟨hown, hby⟩ := hown
  have HY := hide hby
  clear hby
  go_enter Tryd.func73, Tryd.ntmps73
  go_wp2_with (at_builtin; refine wpList_append_own _ rfl (.tmp 12) (.tmp 25) 27 rfl base 5 i0 (.int .u8 0) 1 1 Tryd.underlying27 hi hz0 hz1 hz2 rfl (by decide) _ _ _ rfl (hown.alloc _) ⟨w.heap.size, 0, none⟩ 4 4 _ rfl rfl news_at (one4 _ _ _ _) (by unfold maxLen; omega) (by omega) (by simp; omega) ?_)
  intro v0 w0 hown0 hgrow0 _
  have ho0 := ((Only.refl base [5] w).alloc hbase _).own (hown.alloc _) hgrow0 (by simp; omega) (Nat.le_refl _) (by simp)
  have hs0 : base ≤ w0.heap.size := Nat.le_trans hbase ho0.size
  have HO0 := hide ho0
  clear ho0 hgrow0 hown
  go_wp2_with (at_builtin; refine wpList_append_own _ rfl (.tmp 27) (.tmp 37) 27 rfl base 5 i0 (.int .u8 0) 1 1 Tryd.underlying27 hi hz0 hz1 hz2 rfl (by decide) _ _ _ rfl (hown0.alloc _) ⟨w0.heap.size, 0, none⟩ 3 3 _ rfl rfl news_at (one3 _ _ _) (by unfold maxLen; omega) (by omega) (by simp; omega) ?_)
  intro v1 w1 hown1 hgrow1 _
  have ho1 := ((unhide HO0).alloc hs0 _).own (hown0.alloc _) hgrow1 (by simp; omega) (Nat.le_refl _) (by simp)
  have hs1 : base ≤ w1.heap.size := Nat.le_trans hbase ho1.size
  have HO1 := hide ho1
  clear ho1 hgrow1 hown0
  go_wp2_with (at_builtin; refine wpList_append_own _ rfl (.tmp 39) (.tmp 42) 27 rfl base 5 i0 (.int .u8 0) 1 1 Tryd.underlying27 hi hz0 hz1 hz2 rfl (by decide) _ _ _ rfl (hown1.alloc _) ⟨w1.heap.size, 0, none⟩ 1 1 _ rfl rfl news_at (one1 _) (by unfold maxLen; omega) (by omega) (by simp; omega) ?_)
  intro v2 w2 hown2 hgrow2 _
  have ho2 := ((unhide HO1).alloc hs1 _).own (hown1.alloc _) hgrow2 (by simp; omega) (Nat.le_refl _) (by simp)
  have HO2 := hide ho2
  have HW2 := hide hown2
  clear ho2 hgrow2 hown1 hown2
  go_wp2
  go_ret
  refine ⟨_, rfl, ⟨?_, ?_⟩, unhide HO2⟩
  · have h := unhide HW2
    have e : u8s bs ++ [Value.int .u8 ((n : Int) / 72057594037927936), .int .u8 ((n : Int) / 281474976710656 % 256), .int .u8 ((n : Int) / 1099511627776 % 256), .int .u8 ((n : Int) / 4294967296 % 256), .int .u8 ((n : Int) / 16777216 % 256), .int .u8 ((n : Int) / 65536 % 256), .int .u8 ((n : Int) / 256 % 256), .int .u8 ((n : Int) % 256)] = u8s (bs ++ be8 n) := by simp [u8s, be8]; omega
    have e2 : (bs ++ be8 n).length = bs.length + 4 + 3 + 1 := by simp [be8]
    rw [e2, ← e]; exact h
  · intro x hx
    rcases List.mem_append.1 hx with h | h
    · exact unhide HY x h
    · exact be8_lt n x h
end Go.Proofs.YthjpdglbliigcaaDoor
