/- wire.Frame: a contract. -/
import Derived.Test.YtnagfoclbdlenaaGreatDoorPut
import Derived.Test.YtnagfoclbdlenaaGreatDoorCrcW
import Derived.Test.YtnagfoclbdlenaaGreatDoorSplit
namespace Go.Proofs.YtnagfoclbdlenaaGreatDoor
open Go.RowKit

theorem Bytes.news {w : World} {a : Addr} {bs : List Nat} (h : Bytes w (some a) bs) : ∀ j u, (u8s bs)[j]? = some u → w.cell? (a.add j) = some u := by
  intro j u hj
  have hj' : j < bs.length := by
    have := (List.getElem?_eq_some_iff.1 hj).1
    simpa [u8s] using this
  obtain ⟨a', ea, hc⟩ := h.2 j hj'
  obtain rfl := Option.some.inj ea
  rw [hc, ← hj, u8s, List.getElem?_map, List.getD_eq_getElem?_getD, List.getElem?_eq_getElem hj']; rfl
theorem Bytes.none_nil {w : World} {bs : List Nat} (hb : Bytes w none bs) : bs = [] := by
  cases bs with
  | nil => rfl
  | cons x l => obtain ⟨a, ea, _⟩ := hb.2 0 (by simp); cases ea

theorem frame_long (ao : Option Addr) (cap : Nat) (bs : List Nat) (w : World) (h : 65536 < bs.length) :
    Calls Tryz.prog 62 #[.slice ao bs.length cap] w fun e w' => e = .returned (.tuple #[.slice none 0 0, .int .i64 5]) ∧ w' = w := by
  go_enter Tryz.func62, Tryz.ntmps62
  go_wp2
  go_ret2
  exact ⟨rfl, rfl⟩

set_option maxRecDepth 8000 in
set_option maxHeartbeats 1000000 in
theorem frame_some (a : Addr) (cap : Nat) (bs : List Nat) (w : World) (hb : Bytes w (some a) bs) (hl : bs.length ≤ 65536) (hT : Table w) (hz : 2 < w.heap.size) :
    Calls Tryz.prog 62 #[.slice (some a) bs.length cap] w fun e w' => ∃ v', e = .returned (.tuple #[v', .int .i64 0]) ∧ Own w.heap.size w' v' (frame bs) ∧ Below w.heap.size w w' := by
  obtain ⟨i0, hi, hz0, hz1, hz2⟩ := info_parts Tryz.info5
  have hcl := Sum.crc_lt hb.1
  have HB := hide hb
  have HT := hide hT
  have HZ := hide hz
  clear hb hT hz
  go_enter Tryz.func62, Tryz.ntmps62
  go_wp2_with (at_make; refine wpList_make_own _ rfl _ _ 38 rfl w.heap.size 5 i0 (.int .u8 0) 1 Tryz.underlying38 hi hz0 hz1 .i64 .i64 _ (8 + bs.length) rfl rfl (by omega) (by rw [hz2]; omega) (by unfold maxLen; omega) (Nat.le_refl _) ?_)
  intro w1 hown1 hgrow1
  have o1 : Own w.heap.size w1 (.slice (some ⟨w.heap.size, 0, none⟩) 0 (8 + bs.length)) [] := ⟨hown1, by simp⟩
  have b1 : Below w.heap.size w w1 := (Below.refl _ _).grown hgrow1 (Nat.le_refl _) (fun k hk => by cases hk)
  have O1 := hide o1
  have B1 := hide b1
  have s1 := b1.size
  clear o1 b1 hown1 hgrow1
  go_wp2_with fail
  refine (put4 w.heap.size _ [] bs.length w1 (unhide O1) (by simp) s1 (by omega)).mono ?_
  rintro e w2 ⟨v2, rfl, o2, k2⟩
  have O2 := hide o2
  have b2 := (unhide B1).trans k2.below
  have s2 := b2.size
  have B2 := hide b2
  clear o2 k2 O1 B1 b2
  go_wp2_with fail
  refine (crc_some a cap bs w2 ((unhide HB).below (unhide B2)) (by omega) ((unhide HT).below (unhide B2) (unhide HZ))).mono ?_
  rintro e w2' ⟨rfl, rfl⟩
  go_wp2_with fail
  refine (put4 w.heap.size v2 _ (Sum.crc bs) w2' (unhide O2) (by simp [be4]) s2 (by omega)).mono ?_
  rintro e w3 ⟨v3, rfl, o3, k3⟩
  have b3 := (unhide B2).trans k3.below
  have s3 := b3.size
  have l3 : ([] ++ be4 bs.length ++ be4 (Sum.crc bs)).length = 8 := by simp [be4]
  have hown3 : w3.ownsRow w.heap.size 5 1 v3 8 (u8s ([] ++ be4 bs.length ++ be4 (Sum.crc bs))) := by rw [← l3]; exact o3.1
  have hnw := ((unhide HB).below b3).news
  have O3 := hide o3
  have B3 := hide b3
  clear o3 k3 O2 B2 b3 l3
  go_wp2_with (at_builtin; refine wpList_append_own _ rfl (.tmp 22) (.tmp 23) 38 rfl w.heap.size 5 i0 (.int .u8 0) 1 1 Tryz.underlying38 hi hz0 hz1 hz2 rfl (by decide) _ _ _ rfl hown3 a bs.length cap (u8s bs) rfl (by simp [u8s]) hnw (u8s_one bs) (by unfold maxLen; omega) (by omega) s3 ?_)
  intro v4 w4 hown4 hgrow4 _
  have b4 : Below w.heap.size w w4 := (unhide B3).grown hgrow4 s3 (fun k hk => (hown3.lt k hk).1)
  have B4 := hide b4
  have O4 := hide hown4
  clear b4 hown4 hgrow4 hown3 hnw
  go_wp2
  go_ret2
  refine ⟨_, rfl, ⟨?_, ?_⟩, unhide B4⟩
  · have h := unhide O4
    have e1 : (frame bs).length = 8 + bs.length := by simp [frame, be4]; omega
    have e2 : u8s (frame bs) = u8s (be4 bs.length) ++ (u8s (be4 (Sum.crc bs)) ++ u8s bs) := by simp [u8s, frame]
    rw [e1, e2]; exact h
  · intro x hx
    simp only [frame, List.append_assoc, List.mem_append] at hx
    rcases hx with h | h | h
    · exact be4_lt _ x h
    · exact be4_lt _ x h
    · exact (unhide HB).1 x h

set_option maxRecDepth 8000 in
set_option maxHeartbeats 1000000 in
theorem frame_none (w : World) (hT : Table w) (hz : 2 < w.heap.size) :
    Calls Tryz.prog 62 #[.slice none 0 0] w fun e w' => ∃ v', e = .returned (.tuple #[v', .int .i64 0]) ∧ Own w.heap.size w' v' (frame []) ∧ Below w.heap.size w w' := by
  obtain ⟨i0, hi, hz0, hz1, hz2⟩ := info_parts Tryz.info5
  have HT := hide hT
  have HZ := hide hz
  clear hT hz
  go_enter Tryz.func62, Tryz.ntmps62
  go_wp2_with (at_make; refine wpList_make_own _ rfl _ _ 38 rfl w.heap.size 5 i0 (.int .u8 0) 1 Tryz.underlying38 hi hz0 hz1 .i64 .i64 _ 8 rfl rfl (by omega) (by rw [hz2]; omega) (by unfold maxLen; omega) (Nat.le_refl _) ?_)
  intro w1 hown1 hgrow1
  have o1 : Own w.heap.size w1 (.slice (some ⟨w.heap.size, 0, none⟩) 0 8) [] := ⟨hown1, by simp⟩
  have b1 : Below w.heap.size w w1 := (Below.refl _ _).grown hgrow1 (Nat.le_refl _) (fun k hk => by cases hk)
  have O1 := hide o1
  have B1 := hide b1
  have s1 := b1.size
  clear o1 b1 hown1 hgrow1
  go_wp2_with fail
  refine (put4 w.heap.size _ [] 0 w1 (unhide O1) (by simp) s1 (by omega)).mono ?_
  rintro e w2 ⟨v2, rfl, o2, k2⟩
  have O2 := hide o2
  have b2 := (unhide B1).trans k2.below
  have s2 := b2.size
  have B2 := hide b2
  clear o2 k2 O1 B1 b2
  go_wp2_with fail
  refine (crc_none [] w2 ⟨by simp, by simp⟩).mono ?_
  rintro e w2' ⟨rfl, rfl⟩
  have ec : Sum.crc [] = 0 := by decide
  rw [ec]
  go_wp2_with fail
  refine (put4 w.heap.size v2 _ 0 w2' (unhide O2) (by simp [be4]) s2 (by omega)).mono ?_
  rintro e w3 ⟨v3, rfl, o3, k3⟩
  have b3 := (unhide B2).trans k3.below
  have hown3 := o3.1
  have O3 := hide o3
  have B3 := hide b3
  clear o3 k3 O2 B2 b3
  go_wp2_with (at_builtin; refine wpList_append_own_none rfl (.tmp 22) (.tmp 23) 38 rfl w.heap.size 5 i0 1 Tryz.underlying38 hi _ _ _ rfl hown3 rfl ?_)
  go_wp2
  go_ret2
  refine ⟨_, rfl, ?_, unhide B3⟩
  have e : frame [] = [] ++ be4 0 ++ be4 0 := by decide
  rw [e]
  exact unhide O3

/-- Frame of whatever slice of bytes, in one. -/
theorem frame_any (ao : Option Addr) (cap : Nat) (bs : List Nat) (w : World) (hb : Bytes w ao bs) (hc : ao = none → cap = 0) (hl : bs.length ≤ 65536) (hT : Table w) (hz : 2 < w.heap.size) :
    Calls Tryz.prog 62 #[.slice ao bs.length cap] w fun e w' => ∃ v', e = .returned (.tuple #[v', .int .i64 0]) ∧ Own w.heap.size w' v' (frame bs) ∧ Below w.heap.size w w' := by
  cases ao with
  | none =>
    obtain rfl := hb.none_nil
    obtain rfl := hc rfl
    exact frame_none w hT hz
  | some a => exact frame_some a cap bs w hb hl hT hz
/-- Crc of whatever slice of bytes. -/
theorem crc_any (ao : Option Addr) (cap : Nat) (bs : List Nat) (w : World) (hb : Bytes w ao bs) (hc : ao = none → cap = 0) (hl : bs.length ≤ 140737488355328) (hT : Table w) :
    Calls Tryz.prog 60 #[.slice ao bs.length cap] w fun e w' => e = .returned (.int .u32 ((Sum.crc bs : Nat) : Int)) ∧ w' = w := by
  cases ao with
  | none => obtain rfl := hc rfl; exact crc_none bs w hb
  | some a => exact crc_some a cap bs w hb hl hT
theorem joined_any (ao : Option Addr) (cap : Nat) (bs : List Nat) (w : World) (hb : Bytes w ao bs) (hl : bs.length ≤ 140737488355328) :
    Calls Tryz.prog 59 #[.slice ao bs.length cap] w fun e w' => e = .returned (.int .u64 ((joinTo 0 bs : Nat) : Int)) ∧ w' = w := by
  cases ao with
  | none => exact joined_none cap bs w hb
  | some a => exact joined_some a cap bs w hb hl
theorem crc_len (ao : Option Addr) (n cap : Nat) (bs : List Nat) (hn : bs.length = n) (w : World) (hb : Bytes w ao bs) (hc : ao = none → cap = 0) (hl : n ≤ 140737488355328) (hT : Table w) :
    Calls Tryz.prog 60 #[.slice ao n cap] w fun e w' => e = .returned (.int .u32 ((Sum.crc bs : Nat) : Int)) ∧ w' = w := by
  subst hn; exact crc_any ao cap bs w hb hc hl hT
theorem joined_len (ao : Option Addr) (n cap : Nat) (bs : List Nat) (hn : bs.length = n) (w : World) (hb : Bytes w ao bs) (hl : n ≤ 140737488355328) :
    Calls Tryz.prog 59 #[.slice ao n cap] w fun e w' => e = .returned (.int .u64 ((joinTo 0 bs : Nat) : Int)) ∧ w' = w := by
  subst hn; exact joined_any ao cap bs w hb hl
theorem Bytes.drop {w : World} {a : Addr} {bs : List Nat} (h : Bytes w (some a) bs) (k : Nat) : Bytes w (some (a.add k)) (bs.drop k) := by
  refine ⟨fun x hx => h.1 x (List.mem_of_mem_drop hx), fun i hi => ⟨_, rfl, ?_⟩⟩
  rw [List.length_drop] at hi
  obtain ⟨a', ea, hc⟩ := h.2 (k + i) (by omega)
  obtain rfl := Option.some.inj ea
  rw [Addr.add_add, hc]
  simp [List.getD_eq_getElem?_getD]
theorem Bytes.take {w : World} {ao : Option Addr} {bs : List Nat} (h : Bytes w ao bs) (k : Nat) : Bytes w ao (bs.take k) := by
  refine ⟨fun x hx => h.1 x (List.mem_of_mem_take hx), fun i hi => ?_⟩
  rw [List.length_take] at hi
  obtain ⟨a', ea, hc⟩ := h.2 i (by omega)
  refine ⟨a', ea, ?_⟩
  rw [hc, List.getD_eq_getElem?_getD, List.getD_eq_getElem?_getD, List.getElem?_take_of_lt (by omega)]
end Go.Proofs.YtnagfoclbdlenaaGreatDoor
