/- synodalref2: four, Frame; a slice of bytes as a string: contracts. -/
import Derived.Test.YtbfepfpocgijgaaDoorRCrc
import Derived.Laws.BytesArg
namespace Go.Proofs.YtbfepfpocgijgaaDoor
open Go.RowKit

theorem rcrc_none (w : World) : Calls Tryd.prog 36 #[.slice none 0 0] w fun e w' => e = .returned (.int .u32 0) ∧ w' = w := by
  go_enter Tryd.func36, Tryd.ntmps36
  go_wp2
  refine wp_loop_rounds 1 ?_; rw [rounds_succ]
  go_wp2
  go_ret
  exact ⟨rfl, rfl⟩
theorem crc_nil : Sum.crc [] = 0 := by decide
theorem rcrc_any (ao : Option Addr) (n cap : Nat) (bs : List Nat) (hn : bs.length = n) (w : World) (hb : Bytes w ao bs) (hc : ao = none → cap = 0) (hl : n ≤ 140737488355328) :
    Calls Tryd.prog 36 #[.slice ao n cap] w fun e w' => e = .returned (.int .u32 ((Sum.crc bs : Nat) : Int)) ∧ w' = w := by
  subst hn
  cases ao with
  | none =>
    obtain rfl := hc rfl
    obtain rfl := hb.none_nil
    rw [crc_nil]
    exact rcrc_none w
  | some a => exact rcrc_some a cap bs w hb hl

set_option maxHeartbeats 1000000 in
theorem rfour (base : Nat) (v : Value) (bs : List Nat) (n : Nat) (w : World) (hown : Own base w v bs) (hl : bs.length ≤ 1000000000) (hbase : base ≤ w.heap.size) (hn : n < 4294967296) :
    Calls Tryd.prog 35 #[v, .int .u32 n] w fun e w' => ∃ v', e = .returned v' ∧ Own base w' v' (bs ++ be4 n) ∧ Only base [5] w w' := by
  obtain ⟨i0, hi, hz0, hz1, hz2⟩ := info_parts Tryd.info5
  obtain ⟨hown, hby⟩ := hown
  have HY := hide hby
  clear hby
  go_enter Tryd.func35, Tryd.ntmps35
  go_wp2_with (at_builtin; refine wpList_append_own _ rfl (.tmp 5) (.tmp 17) 32 rfl base 5 i0 (.int .u8 0) 1 1 Tryd.underlying32 hi hz0 hz1 hz2 rfl (by decide) _ _ _ rfl (hown.alloc _) ⟨w.heap.size, 0, none⟩ 4 4 _ rfl rfl news_at (one4 _ _ _ _) (by unfold maxLen; omega) (by omega) (by simp; omega) ?_)
  intro v1 w1 hown1 hgrow1 _
  have ho1 := ((Only.refl base [5] w).alloc hbase _).own (hown.alloc _) hgrow1 (by simp; omega) (Nat.le_refl _) (by simp)
  have HO1 := hide ho1
  have HW1 := hide hown1
  clear ho1 hgrow1 hown hown1
  go_wp2
  go_ret
  refine ⟨_, rfl, ⟨?_, ?_⟩, unhide HO1⟩
  · have h := unhide HW1
    have e : u8s bs ++ [Value.int .u8 ((n : Int) / 16777216), .int .u8 ((n : Int) / 65536 % 256), .int .u8 ((n : Int) / 256 % 256), .int .u8 ((n : Int) % 256)] = u8s (bs ++ be4 n) := by simp [u8s, be4]; omega
    have e2 : (bs ++ be4 n).length = bs.length + 4 := by simp [be4]
    rw [e2, ← e]; exact h
  · intro x hx
    rcases List.mem_append.1 hx with h | h
    · exact unhide HY x h
    · exact be4_lt n x h

set_option maxRecDepth 8000 in
set_option maxHeartbeats 1000000 in
theorem rframe_some (a : Addr) (cap : Nat) (bs : List Nat) (w : World) (hb : Bytes w (some a) bs) (hl : bs.length ≤ 65536) :
    Calls Tryd.prog 25 #[.slice (some a) bs.length cap] w fun e w' => ∃ v', e = .returned (.tuple #[v', .int .i64 0]) ∧ Own w.heap.size w' v' (frame bs) ∧ Below w.heap.size w w' := by
  obtain ⟨i0, hi, hz0, hz1, hz2⟩ := info_parts Tryd.info5
  have hcl := Sum.crc_lt hb.1
  have HB := hide hb
  clear hb
  go_enter Tryd.func25, Tryd.ntmps25
  go_wp2_with fail
  refine (rfour w.heap.size _ [] bs.length w (Own.nil _ _) (by simp) (Nat.le_refl _) (by omega)).mono ?_
  rintro e w2 ⟨v2, rfl, o2, k2⟩
  have O2 := hide o2
  have s2 := k2.size
  have B2 := hide k2.below
  clear o2 k2
  go_wp2_with fail
  refine (rcrc_some a cap bs w2 ((unhide HB).below (unhide B2)) (by omega)).mono ?_
  rintro e w2' ⟨rfl, rfl⟩
  go_wp2_with fail
  refine (rfour w.heap.size v2 _ (Sum.crc bs) w2' (unhide O2) (by simp [be4]) s2 (by omega)).mono ?_
  rintro e w3 ⟨v3, rfl, o3, k3⟩
  have b3 := (unhide B2).trans k3.below
  have s3 := b3.size
  have l3 : ([] ++ be4 bs.length ++ be4 (Sum.crc bs)).length = 8 := by simp [be4]
  have hown3 : w3.ownsRow w.heap.size 5 1 v3 8 (u8s ([] ++ be4 bs.length ++ be4 (Sum.crc bs))) := by rw [← l3]; exact o3.1
  have hnw := ((unhide HB).below b3).news
  have B3 := hide b3
  clear o3 k3 O2 B2 b3 l3
  go_wp2_with (at_builtin; refine wpList_append_own _ rfl (.tmp 13) (.tmp 14) 32 rfl w.heap.size 5 i0 (.int .u8 0) 1 1 Tryd.underlying32 hi hz0 hz1 hz2 rfl (by decide) _ _ _ rfl hown3 a bs.length cap (u8s bs) rfl (by simp [u8s]) hnw (u8s_one bs) (by unfold maxLen; omega) (by omega) s3 ?_)
  intro v4 w4 hown4 hgrow4 _
  have b4 : Below w.heap.size w w4 := (unhide B3).grown hgrow4 s3 (fun k hk => (hown3.lt k hk).1)
  have B4 := hide b4
  have O4 := hide hown4
  clear b4 hown4 hgrow4 hown3 hnw
  go_wp2
  go_ret2
  refine ⟨_, rfl, ⟨?_, ?_⟩, unhide B4⟩
  · have h := unhide O4
    have e1 : (frame bs).length = 8 + bs.length := frame_length bs
    have e2 : u8s (frame bs) = u8s (be4 bs.length) ++ (u8s (be4 (Sum.crc bs)) ++ u8s bs) := by simp [u8s, frame]
    rw [e1, e2]; exact h
  · intro x hx
    simp only [frame, List.append_assoc, List.mem_append] at hx
    rcases hx with h | h | h
    · exact be4_lt _ x h
    · exact be4_lt _ x h
    · exact (unhide HB).1 x h

set_option maxHeartbeats 1000000 in
theorem rframe_none (w : World) :
    Calls Tryd.prog 25 #[.slice none 0 0] w fun e w' => ∃ v', e = .returned (.tuple #[v', .int .i64 0]) ∧ Own w.heap.size w' v' (frame []) ∧ Below w.heap.size w w' := by
  obtain ⟨i0, hi, hz0, hz1, hz2⟩ := info_parts Tryd.info5
  go_enter Tryd.func25, Tryd.ntmps25
  go_wp2_with fail
  refine (rfour w.heap.size _ [] 0 w (Own.nil _ _) (by simp) (Nat.le_refl _) (by omega)).mono ?_
  rintro e w2 ⟨v2, rfl, o2, k2⟩
  have O2 := hide o2
  have s2 := k2.size
  have B2 := hide k2.below
  clear o2 k2
  go_wp2_with fail
  refine (rcrc_none w2).mono ?_
  rintro e w2' ⟨rfl, rfl⟩
  go_wp2_with fail
  refine (rfour w.heap.size v2 _ 0 w2' (unhide O2) (by simp [be4]) s2 (by omega)).mono ?_
  rintro e w3 ⟨v3, rfl, o3, k3⟩
  have b3 := (unhide B2).trans k3.below
  have hown3 := o3.1
  have O3 := hide o3
  have B3 := hide b3
  clear o3 k3 O2 B2 b3
  go_wp2_with (at_builtin; refine wpList_append_own_none rfl (.tmp 13) (.tmp 14) 32 rfl w.heap.size 5 i0 1 Tryd.underlying32 hi _ _ _ rfl hown3 rfl ?_)
  go_wp2
  go_ret2
  refine ⟨_, rfl, ?_, unhide B3⟩
  have e : frame [] = [] ++ be4 0 ++ be4 0 := by decide
  rw [e]
  exact unhide O3

theorem rframe_any (ao : Option Addr) (n cap : Nat) (bs : List Nat) (hn : bs.length = n) (w : World) (hb : Bytes w ao bs) (hc : ao = none → cap = 0) (hl : n ≤ 65536) :
    Calls Tryd.prog 25 #[.slice ao n cap] w fun e w' => ∃ v', e = .returned (.tuple #[v', .int .i64 0]) ∧ Own w.heap.size w' v' (frame bs) ∧ Below w.heap.size w w' := by
  subst hn
  cases ao with
  | none =>
    obtain rfl := hc rfl
    obtain rfl := hb.none_nil
    exact rframe_none w
  | some a => exact rframe_some a cap bs w hb hl
end Go.Proofs.YtbfepfpocgijgaaDoor
